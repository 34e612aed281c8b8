"""A search for one answer of each kind, cut short by turns, and a judge of what it tells."""

from turnless.errors import NoAsk
from turnless.groups import MOST_TRUTHS
from turnless.letters import is_clause, is_list, is_number, is_part, is_worths, word_of
from turnless.problems import is_answer
from turnless.refusals import refuse_more, refuse_unfit_group
from turnless.turns import fits, goes

_KEYS = ("answers", "nodes", "ends")

# How many things an end of each word has, the word among them.
_SIZES = {"lost": 3, "cut": 4, "answer": 2}


def searched(problem, group, *, ask=None):
    """One answer of each kind, and the ends of the tree that was searched; ask tells of a node which truth to try."""
    refuse_more(problem, MOST_TRUTHS)
    refuse_unfit_group(problem, group)
    walk = Walk(problem, group.turns(), ask)
    walk.visit((), walk.first_ways(), [])
    return {"answers": walk.answers, "nodes": walk.nodes, "ends": walk.ends}


def shows_search(problem, group, told):
    """Whether what is told, of any kind, is what a search may tell: so all kinds are among its answers."""
    if group.truths() != problem.many or not all([fits(problem, maker) for maker in group.makers()]):
        return False
    if not _is_told(told):
        return False
    reader = EndReader(problem, group)
    for end in told["ends"]:
        if not reader.takes(end):
            return False
    return reader.has_all() and told["nodes"] == reader.nodes and _are_answers(told["answers"], reader.answers)


def _is_told(thing):
    """Whether it is a dict of just what a search tells, whatever stands in its lists."""
    if type(thing) != dict or len(thing) != len(_KEYS) or not all([type(key) == str for key in thing]):
        return False
    if not all([key in thing for key in _KEYS]):
        return False
    return is_list(thing["answers"]) and is_list(thing["ends"]) and is_number(thing["nodes"])


def _are_answers(things, found):
    # Of worths alone it is asked whether they are the same, as other things may be equal to numbers.
    return len(things) == len(found) and all(
        [is_worths(thing, len(answer)) and thing == answer for thing, answer in zip(things, found)]
    )


def _worths_of(node, many):
    """The worths by which the letters of a node hold, in which all truths stand."""
    return tuple([1 if truth in node else 0 for truth in range(1, many + 1)])


class Walk:
    """Walks the tree of nodes, not so ahead of so; letters are bits, so that parts are numbers.

    Of the nodes whose ends came just those are looked at that stand beside the way to a node, not
    so where the way goes so: each other one has all letters of one of them, so where it goes into
    the node, that one does. Of these elders those parts are kept to which turns lead them that deny
    no letter of the node, as what does denies it of all that come from the node, too.
    """

    def __init__(self, problem, turns, ask):
        self.answers = []
        self.nodes = 0
        self.ends = []
        self._many = problem.many
        self._ask = ask
        self._turns = turns
        letters = [letter for letter in range(-problem.many, problem.many + 1) if letter != 0]
        self._bit_of = {letter: 1 << problem.many + letter for letter in letters}
        self._goal_bits = {letter: [self._bit_of[goes(turn, letter)] for turn in turns] for letter in letters}
        self._denials = [(self._bits_of([-letter for letter in clause]), clause) for clause in problem.clauses]

    def first_ways(self):
        """To what each turn leads the first node."""
        return [0 for turn in self._turns]

    def visit(self, node, ways, elders):
        """Visits a node and all from it: ways tells to what each turn leads it, elders are those to compare with."""
        self.nodes += 1
        end = self._end_of(node, self._bits_of(node), elders)
        if end is not None:
            self.ends.append(end)
            return
        truth = self._asked(node)
        lower, lower_ways = node + (-truth,), self._led_on(ways, -truth)
        self.visit(lower, lower_ways, self._not_denying(elders, -truth))
        upper = node + (truth,)
        elders = self._not_denying(elders, truth) + self._elders_of(lower, lower_ways, upper)
        self.visit(upper, self._led_on(ways, truth), elders)

    def _end_of(self, node, bits, elders):
        """The end that the node is, None where it is none."""
        for denial, clause in self._denials:
            if denial & bits == denial:
                return "lost", node, clause
        for goal, elder, turn in elders:
            if goal & bits == goal:
                return "cut", node, elder, turn
        if len(node) < self._many:
            return None
        self.answers.append(_worths_of(node, self._many))
        return "answer", node

    def _asked(self, node):
        """The truth to try next."""
        known = {abs(letter): True for letter in node}
        if self._ask is None:
            return min([truth for truth in range(1, self._many + 1) if truth not in known])
        ask = self._ask
        truth = ask(node)
        if not is_number(truth) or not 1 <= truth <= self._many or truth in known:
            raise NoAsk("this is no truth that may be asked for")
        return truth

    def _bits_of(self, letters):
        return sum([self._bit_of[letter] for letter in letters])

    def _led_on(self, ways, letter):
        """To what each turn leads a node with this letter, too."""
        return [way | bit for way, bit in zip(ways, self._goal_bits[letter])]

    def _not_denying(self, elders, letter):
        bit = self._bit_of[-letter]
        return [elder for elder in elders if not elder[0] & bit]

    def _elders_of(self, elder, ways, node):
        """What is kept of an elder for a node: the unlike parts to which turns lead it that deny no letter of it."""
        denied = self._bits_of([-letter for letter in node])
        turns = {way: turn for way, turn in zip(ways, self._turns) if not way & denied}
        return [(way, elder, turn) for way, turn in turns.items()]


class EndReader:
    """Reads the ends of a tree one by one."""

    def __init__(self, problem, group):
        self.answers = []
        self.nodes = 1
        self._problem = problem
        self._group = group
        self._own = {clause: True for clause in problem.clauses}
        # Nodes of which ends are still to come, and none came; the one to come next is the last.
        self._waiting = [()]
        # Nodes all of whose ends came.
        self._finished = {}

    def has_all(self):
        """Whether no end is to come any more."""
        return self._waiting == []

    def takes(self, end):
        """Whether an end, of any kind, is right as the next one."""
        word = word_of(end)
        if word not in _SIZES or len(end) != _SIZES[word] or not is_part(end[1], self._problem.many):
            return False
        node = end[1]
        if not self._goes_to(node) or not self._is_right(end):
            return False
        self._finish(node)
        return True

    def _goes_to(self, node):
        """Whether the node may be that of the next end: it goes on, not so each time, from the one to come next."""
        if self._waiting == []:
            return False
        start = self._waiting.pop()
        if node[:len(start)] != start:
            return False
        for at in range(len(start), len(node)):
            if node[at] > 0:
                return False
            self._waiting.append(node[:at] + (-node[at],))
            self.nodes += 2
        return True

    def _is_right(self, end):
        if end[0] == "lost":
            return self._is_lost(end[1], end[2])
        if end[0] == "cut":
            return self._is_cut(end[1], end[2], end[3])
        answer = _worths_of(end[1], self._problem.many)
        if len(end[1]) < self._problem.many or not is_answer(self._problem, answer):
            return False
        self.answers.append(answer)
        return True

    def _is_lost(self, node, clause):
        if not is_clause(clause, self._problem.many) or clause not in self._own:
            return False
        return all([-letter in node for letter in clause])

    def _is_cut(self, node, elder, turn):
        if not is_part(elder, self._problem.many) or elder not in self._finished or not self._group.has(turn):
            return False
        return all([goes(turn, letter) in node for letter in elder])

    def _finish(self, node):
        """Notes that all ends of the node came, and so of those of which it was the last one to come."""
        self._finished[node] = True
        while len(node) > 0 and node[-1] > 0:
            node = node[:-1]
            self._finished[node] = True
