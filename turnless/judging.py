"""The judge, who reads a log step by step and lets by only what follows, what a turn leads there, and what may go."""

from turnless.breaking import is_order, lesser_clauses
from turnless.errors import NoLog, NoStep
from turnless.letters import is_clause, is_list, is_number, word_of
from turnless.pushing import Pusher
from turnless.turns import clause_goes, fits, is_turn, still

# How many things a step of each word has, the word among them.
_SIZES = {"order": 2, "learn": 2, "pure": 2, "turned": 3, "turn": 2, "drop": 2}


class Judge:
    """Reads steps for a problem, and knows which clauses stand."""

    def __init__(self, problem):
        self._stand = Stand(problem)
        self._begun = 0
        self._done = 0

    def read(self, step):
        """Reads one step; refuses, of anything, what isn't let by."""
        if not self._stand.takes(step):
            raise NoStep("this step isn't let by")
        return True

    def read_all(self, log):
        """Reads all steps of the log or none, and tells how many."""
        self._begun += 1
        try:
            self._stand = _stand_behind(self._stand, log)
        finally:
            self._done += 1
        return len(log)

    def standing(self):
        """The list of the clauses that stand, each with whether it is pure: the problem's own, then as they came."""
        return self._stand.pairs()

    def steps(self):
        """How many steps were read."""
        return self._stand.how_many_steps()

    def truths(self):
        """How many truths there are so far, with the helpers."""
        return self._stand.how_many_truths()

    def ended(self):
        """Whether the empty clause stands."""
        return () in [clause for clause, _ in self._stand.pairs()]

    def tries(self):
        """How many read_all were begun, and how many ended."""
        return self._begun, self._done


def lets_by(problem, log):
    """Whether a new judge reads all of the log, of any kind, and has ended."""
    judge = Judge(problem)
    try:
        judge.read_all(log)
    except NoLog:
        return False
    return judge.ended()


def _stand_behind(stand, log):
    """What stands behind the log; what stands ahead stays as it is."""
    if not is_list(log):
        raise NoLog(0)
    behind = stand.twin()
    for at, step in enumerate(log):
        if not behind.takes(step):
            raise NoLog(at)
    return behind


class Stand:
    """What stands behind the steps that were read."""

    def __init__(self, problem):
        self._problem = problem
        self._own = {clause: True for clause in problem.clauses}
        # Pairs of a clause and whether it is pure, of those that stand by steps.
        self._came = []
        # Of each step that was read its pure clause, be it dropped; None of one that has none.
        self._pure_of_steps = []
        self._all = Pusher(problem.clauses)
        self._pure = Pusher(problem.clauses)
        self._truths = problem.many
        self._order = still(problem.many)
        self._order_may_come = True
        self._fitting = {}

    def twin(self):
        """Another one, alike, that goes its own way from here on."""
        other = Stand(self._problem)
        for clause, pure in self._came:
            other._put(clause, pure)
        other._pure_of_steps = list(self._pure_of_steps)
        other._truths = self._truths
        other._order = self._order
        other._order_may_come = self._order_may_come
        return other

    def pairs(self):
        """The list of clauses that stand, each with whether it is pure."""
        return [(clause, True) for clause in self._problem.clauses] + self._came

    def how_many_steps(self):
        """How many steps were read."""
        return len(self._pure_of_steps)

    def how_many_truths(self):
        """How many truths there are, with the helpers."""
        return self._truths

    def takes(self, step):
        """Reads a step, of any kind, and tells whether it was let by; else nothing changes."""
        word = word_of(step)
        if word not in _SIZES or len(step) != _SIZES[word]:
            return False
        if word == "order":
            return self._takes_order(step[1])
        if word == "learn":
            return self._takes_learned(step[1])
        if word == "pure":
            return self._takes_pure(step[1])
        if word == "turned":
            return self._takes_turned(step[1], step[2])
        if word == "turn":
            return self._takes_turn(step[1])
        return self._takes_drop(step[1])

    def _takes_order(self, letters):
        if not self._order_may_come or type(letters) != tuple or not is_order(letters, self._problem.many):
            return False
        self._order = letters
        self._order_may_come = False
        return self._read(None)

    def _takes_learned(self, clause):
        if not is_clause(clause, self._truths) or not self._all.follows(clause):
            return False
        self._put(clause, False)
        return self._read(None)

    def _takes_pure(self, clause):
        if not is_clause(clause, self._problem.many) or not self._pure.follows(clause):
            return False
        self._put(clause, True)
        return self._read(clause)

    def _takes_turned(self, at, turn):
        if not is_number(at) or not 0 <= at < len(self._pure_of_steps) or not self._is_fitting(turn):
            return False
        clause = self._pure_of_steps[at]
        if clause is None:
            return False
        goal = clause_goes(turn, clause)
        self._put(goal, True)
        return self._read(goal)

    def _takes_turn(self, turn):
        if not self._is_fitting(turn):
            return False
        for clause in lesser_clauses(turn, self._truths + 1, self._order):
            self._put(clause, False)
        self._truths += self._problem.many
        self._order_may_come = False
        return self._read(None)

    def _takes_drop(self, clause):
        if not is_clause(clause, self._truths):
            return False
        staying = [pair for pair in self._came if pair[0] != clause]
        if len(staying) == len(self._came):
            return False
        self._came = staying
        if clause not in self._own:
            self._all.drop(clause)
            self._pure.drop(clause)
        return self._read(None)

    def _read(self, pure_clause):
        """Counts a step that is let by."""
        self._pure_of_steps.append(pure_clause)
        return True

    def _put(self, clause, pure):
        """Lets a clause stand."""
        self._came.append((clause, pure))
        self._all.put(clause)
        if pure:
            self._pure.put(clause)

    def _is_fitting(self, thing):
        """Whether the thing, of any kind, is a turn that fits the problem."""
        if not is_turn(thing, self._problem.many):
            return False
        # A log tells the same turns again and again.
        if thing not in self._fitting:
            self._fitting[thing] = fits(self._problem, thing)
        return self._fitting[thing]
