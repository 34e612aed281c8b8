"""Kinds: answers that turns of a group lead to one another, counted and told by the least of each."""

from turnless.errors import NoAnswer, NotThere, NoTurn
from turnless.groups import MOST_TRUTHS, Chain, Group
from turnless.letters import is_worths, worth_table
from turnless.problems import answers
from turnless.refusals import refuse_more, refuse_unfit_group
from turnless.turns import fits, goes, is_turn, led_back, led_on, still, table_of


def least(group, answer):
    """The least answer of the kind of this one, and a turn that leads there."""
    ways = _ways_from(group, answer)
    lowest = min(list(ways))
    return lowest, ways[lowest]


def kinds(problem, group):
    """A rising dict from the least answer of each kind to how many are of the kind."""
    refuse_more(problem, MOST_TRUTHS)
    refuse_unfit_group(problem, group)
    backs = [led_back(maker) for maker in group.makers()]
    found = {}
    kind_of = {}
    # They rise, so the first of a kind is its least.
    for answer in answers(problem):
        if answer not in kind_of:
            found[answer] = 0
            _put_kind(answer, backs, kind_of)
        found[kind_of[answer]] += 1
    return found


def unmoved(problem, turn):
    """How many of the problem's answers the turn leaves."""
    refuse_more(problem, MOST_TRUTHS)
    if not is_turn(turn, problem.many):
        raise NoTurn("this is no turn of so many truths")
    if not fits(problem, turn):
        raise NotThere(0)
    return Columns(problem).how_many_stay(turn)


def by_unmoved(problem, group, *, most=1000):
    """How many kinds there are, by how many answers each turn leaves; refused where there are more turns than most."""
    refuse_more(problem, MOST_TRUTHS)
    refuse_unfit_group(problem, group)
    columns = Columns(problem)
    return sum([columns.how_many_stay(turn) for turn in group.turns(most=most)]) // group.size()


def stayers(group, answer):
    """The group of the turns that leave the answer."""
    ways = _ways_from(group, answer)
    chain = Chain(list(still(group.truths())))
    size = group.size() // len(ways)
    leads = [(table_of(maker), led_back(maker)) for maker in group.makers()]
    for start, way in ways.items():
        # As many as there must be are all there are.
        if chain.size() == size:
            break
        holds = worth_table(start)
        for table, back in leads:
            # There by one way, back by that from the answer: of such turns all that leave it are products.
            goal = tuple([holds[letter] for letter in back])
            chain.put(led_on(led_on(way, table), table_of(led_back(ways[goal]))), 0)
    return Group(group.truths(), chain.makers_of(0))


def _ways_from(group, answer):
    """A dict from the answers of the kind of this one, of any kind, to one turn that leads there each."""
    if not is_worths(answer, group.truths()):
        raise NoAnswer("this is no answer of so many truths")
    leads = [(table_of(maker), led_back(maker)) for maker in group.makers()]
    ways = {answer: still(group.truths())}
    waiting = [answer]
    while waiting:
        start = waiting.pop()
        holds = worth_table(start)
        for table, back in leads:
            goal = tuple([holds[letter] for letter in back])
            if goal not in ways:
                ways[goal] = led_on(ways[start], table)
                waiting.append(goal)
    return ways


def _put_kind(answer, backs, kind_of):
    """Notes of each answer of the kind of this one that it is of it."""
    kind_of[answer] = answer
    waiting = [answer]
    while waiting:
        holds = worth_table(waiting.pop())
        for back in backs:
            goal = tuple([holds[letter] for letter in back])
            if goal not in kind_of:
                kind_of[goal] = answer
                waiting.append(goal)


class Columns:
    """For each letter of a problem by which of its answers it holds: a number with a bit for each answer."""

    def __init__(self, problem):
        found = answers(problem)
        self._many = problem.many
        self._every = (1 << len(found)) - 1
        self._of_letter = {}
        for truth in range(1, problem.many + 1):
            bits = sum([1 << at for at, answer in enumerate(found) if answer[truth - 1] == 1])
            self._of_letter[truth] = bits
            self._of_letter[-truth] = self._every ^ bits

    def how_many_stay(self, turn):
        """How many answers a turn leaves that fits."""
        # By those that it leaves each letter holds just where that one does to which it goes.
        unlike = 0
        for truth in range(1, self._many + 1):
            unlike = unlike | self._of_letter[truth] ^ self._of_letter[goes(turn, truth)]
        word = f"{self._every ^ unlike:b}"
        return word.count("1")
