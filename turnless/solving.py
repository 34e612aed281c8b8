"""Solving a problem: an answer, or a log that a judge lets by to the end."""

from turnless.breaking import lesser
from turnless.errors import NoPart, NoWay
from turnless.finding import all_turns
from turnless.groups import MOST_TRUTHS
from turnless.judging import lets_by
from turnless.letters import is_part, word_of
from turnless.problems import is_answer
from turnless.pushing import Pusher
from turnless.refusals import refuse_more, refuse_unfit_group
from turnless.turns import clause_goes, led_on, still, table_of

PLAIN = "plain"
WAYS = ("plain", "broken", "turned")

# Of a clause that was learned so many are kept at most that turns lead it to.
_MOST_TURNED = 200


def solved(problem, *, way=PLAIN, group=None):
    """An answer of the problem, with the word yes, or a log that a judge lets by to the end, with no."""
    refuse_more(problem, MOST_TRUTHS)
    if type(way) != str or way not in WAYS:
        raise NoWay("there is no such way")
    if group is not None:
        refuse_unfit_group(problem, group)
    # To find all turns may take long, so it isn't done where none is wanted.
    if way == PLAIN:
        return Solver(problem, way, []).told()
    whole = all_turns(problem) if group is None else group
    return Solver(problem, way, whole.makers()).told()


def checked(problem, told):
    """Whether what is told, of any kind, is what solved may tell of the problem, and right."""
    word = word_of(told)
    if word not in ("yes", "no") or len(told) != 2:
        return False
    return is_answer(problem, told[1]) if word == "yes" else lets_by(problem, told[1])


def forced(problem, part):
    """What a push makes so once the part is: a clause that is lost, or all letters that are so."""
    if not is_part(part, problem.many):
        raise NoPart("this is no part")
    lost, so = Pusher(problem.clauses).pushed(part)
    if lost is not None:
        return "lost", lost
    return "open", tuple(sorted(list(so), key=abs))


class Solver:
    """Decides letter by letter, and learns of each dead end a clause that denies what led there.

    It pushes by just those clauses by which the judge does, so what it learns follows.
    """

    def __init__(self, problem, way, makers):
        self._many = problem.many
        self._pusher = Pusher(problem.clauses)
        self._letters = _letters_to_try(problem)
        self._word = "learn" if way == "broken" else "pure"
        self._tables = [table_of(maker) for maker in makers] if way == "turned" else []
        self._log = []
        self._learned = {}
        self._ended = () in problem.clauses
        if way == "broken":
            self._put_lesser(makers)

    def told(self):
        """What solved tells."""
        decided = []
        while not self._ended:
            lost, so = self._pusher.pushed(decided)
            if lost is not None:
                decided = self._back_from(decided)
            else:
                letter = self._next_letter(so)
                if letter is None:
                    return "yes", tuple([1 if k in so else 0 for k in range(1, self._many + 1)])
                decided.append(letter)
        return "no", self._log

    def _put_lesser(self, makers):
        for at, maker in enumerate(makers, start=1):
            self._log.append(("turn", maker))
            for clause in lesser(maker, self._many * at + 1):
                self._pusher.put(clause)

    def _next_letter(self, so):
        """A letter to decide on, None where all truths of the problem are known."""
        for letter in self._letters:
            if letter not in so and -letter not in so:
                return letter
        return None

    def _back_from(self, decided):
        """Learns from what was decided to a dead end, and tells what stays decided."""
        needed = self._needed(decided)
        if needed == []:
            self._log.append((self._word, ()))
            self._ended = True
            return []
        clause = tuple(sorted([-letter for letter in needed], key=abs))
        # A turn may have led to it, once what denies it was decided.
        if not self._pusher.has(clause):
            self._learn(clause)
        return decided[:decided.index(needed[-1])]

    def _needed(self, decided):
        """As few of these letters as lead to a dead end, in their order."""
        needed = decided
        for letter in decided:
            fewer = [other for other in needed if other != letter]
            lost, _ = self._pusher.pushed(fewer)
            if lost is not None:
                needed = fewer
        return needed

    def _learn(self, clause):
        """Learns a clause that follows, and others to which turns lead it, but those that follow anyway."""
        at = len(self._log)
        self._put((self._word, clause), clause)
        for goal, turn in self._goals_of(clause).items():
            if not self._pusher.follows(goal):
                self._put(("turned", at, turn), goal)

    def _put(self, step, clause):
        """Notes the step by which the clause stands, and drops what was learned ahead and says less."""
        self._log.append(step)
        self._pusher.put(clause)
        for other in list(self._learned):
            if all([letter in other for letter in clause]):
                self._log.append(("drop", other))
                self._pusher.drop(other)
                del self._learned[other]
        self._learned[clause] = True

    def _goals_of(self, clause):
        """From clauses to which turns lead the clause, not more than are kept, to one such turn each."""
        ways = {clause: still(self._many)}
        waiting = [clause]
        while waiting:
            start = waiting.pop()
            for table in self._tables:
                way = led_on(ways[start], table)
                goal = clause_goes(way, clause)
                if goal not in ways and len(ways) < _MOST_TURNED:
                    ways[goal] = way
                    waiting.append(goal)
        return ways


def _letters_to_try(problem):
    """A letter of each truth, those of many and short clauses first, each with the sign that stands in more."""
    weights = {}
    for clause in problem.clauses:
        for letter in clause:
            weights[letter] = weights.get(letter, 0) + (1 << problem.many - len(clause))
    found = []
    for truth in range(1, problem.many + 1):
        so, other = weights.get(truth, 0), weights.get(-truth, 0)
        found.append((-so - other, truth, truth if so > other else -truth))
    return [letter for _, _, letter in sorted(found)]
