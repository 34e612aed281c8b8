"""All turns of a problem, turns from one problem to another or trees that show that there are none, and least forms."""

from turnless.groups import MOST_TRUTHS, Group, orbit_of
from turnless.letters import letters_beside
from turnless.problems import Problem
from turnless.refusals import refuse_more
from turnless.trees import gaps
from turnless.turns import clause_goes, goes, led_back, table_of

_MOST_FORMED = 6

# A code has the size of a clause, at most 12, in its lowest bits.
_SIZE_BITS = 4
_SIZES = 16


def all_turns(problem):
    """The group of all turns that fit the problem."""
    refuse_more(problem, MOST_TRUTHS)
    search = Search(problem, problem)
    makers = []
    for truth in range(problem.many, 0, -1):
        makers.extend(_turns_moving(truth, makers, search))
    return Group(problem.many, makers)


def _turns_moving(truth, makers, search):
    """Turns that leave the truths ahead, and with the makers lead this one wherever any such turn does."""
    ahead = {other: other for other in range(1, truth)}
    found = []
    parted = {}
    for letter in letters_beside(ahead, search.many):
        orbit = orbit_of(letter, makers + found)
        # Where one letter of an orbit is reached, or can't be, so it is with all.
        if truth not in orbit and not any([other in parted for other in orbit]):
            word, told = search.settled({**ahead, truth: letter})
            if word == "alike":
                found.append(told)
            else:
                parted[letter] = True
    return found


def alike(one, other):
    """A turn that leads one to other, or a tree that shows that there is none."""
    refuse_more(one, MOST_TRUTHS)
    refuse_more(other, MOST_TRUTHS)
    if one.many != other.many:
        return "parted", ("many",)
    return Search(one, other).settled({})


def shown(problem):
    """The group of all turns, and the paper that there is no other."""
    group = all_turns(problem)
    search = Search(problem, problem)
    paper = {}
    for pair, known in gaps(group).items():
        _, paper[pair] = search.settled(known)
    return group, paper


def formed(problem):
    """The least problem to which a turn leads this one, and such a turn."""
    refuse_more(problem, _MOST_FORMED)
    turn = _least_way(problem, _unlike_ways(all_turns(problem)))
    return Problem(problem.many, [clause_goes(turn, clause) for clause in problem.clauses]), turn


def _unlike_ways(group):
    """One turn to each problem to which a problem with just these turns is led.

    First a turn of the group, then another, leads to where the other does. Among all of these
    just one leads each letter of the base to the least that its floor can give it.
    """
    many = group.truths()
    pairs = {truth: [] for truth in range(1, many + 1)}
    for letter, floor in zip(group.base(), group.floors()):
        for goal in floor:
            pairs[max(abs(letter), abs(goal))].append((letter, goal))
    starts = [()]
    for truth in range(1, many + 1):
        starts = [longer for start in starts for longer in _longer_ways(start, many, pairs[truth])]
    return starts


def _longer_ways(start, many, pairs):
    """The starts with one truth more that lead the first of each pair to less than the second."""
    used = {abs(letter): True for letter in start}
    longer = [start + (letter,) for letter in letters_beside(used, many)]
    return [turn for turn in longer if all([goes(turn, letter) <= goes(turn, goal) for letter, goal in pairs])]


def _least_way(problem, turns):
    """Of turns to unlike problems, all there are, that one to the least."""
    many = problem.many
    own = {sum([1 << many + letter for letter in clause]): True for clause in problem.clauses}
    ways = [(turn, _bits_back(turn)) for turn in turns]
    for clause in _clauses_to_place(problem):
        # Clause by clause from the least on, those ways stay that lead one there, if any does.
        having = [way for way in ways if sum([way[1][letter] for letter in clause]) in own]
        ways = having if having else ways
    return ways[0][0]


def _clauses_to_place(problem):
    """All clauses, lesser ones first, of the sizes that the problem has, but of those of which it has all."""
    often = {}
    for clause in problem.clauses:
        often[len(clause)] = often.get(len(clause), 0) + 1
    found = []
    for size in sorted(list(often)):
        clauses = _clauses_of_size(problem.many, size)
        found.extend(clauses if len(clauses) > often[size] else [])
    return found


def _bits_back(turn):
    """The bit of the letter that goes to each letter by the turn, with that letter as the index."""
    return tuple([1 << len(turn) + letter for letter in table_of(led_back(turn))])


def _clauses_of_size(many, size):
    """The rising list of all clauses of this size."""
    found = [()]
    for _ in range(size):
        found = [start + (letter,) for start in found for letter in letters_beside({}, many) if _is_next(start, letter)]
    return found


def _is_next(start, letter):
    return len(start) == 0 or abs(letter) > abs(start[-1])


class Search:
    """Looks for a turn from one problem to another, truth by truth, and keeps by a tree why there is none.

    What is known of a clause is a code: its size, and for each known truth, in the order in which
    they came to be known, two bits, for its letter and for the other sign. Clauses of other are
    told by the letters of one. As long as both have the same codes, as often, no count differs.
    """

    def __init__(self, one, other):
        self.many = one.many
        self._one = Side(one)
        self._other = Side(other)
        self._kept = {}

    def settled(self, known):
        """A turn that leads the known truths so, or a tree that shows that there is none, each with its word."""
        truths = tuple(known)
        codes = self._other.sizes
        for step, letter in enumerate(known.values()):
            codes = self._other.coded(codes, letter, step)
        ours, _ = self._own(truths)
        code = _first_unlike(sorted(ours, reverse=True), sorted(codes, reverse=True))
        if code is not None:
            return "parted", _count_leaf(truths, code)
        return self._walked(known, codes)

    def _walked(self, known, codes):
        """The same, where no count of known letters differs; codes are those of other."""
        if len(known) == self.many:
            return "alike", tuple([known[truth] for truth in range(1, self.many + 1)])
        _, ours = self._own(tuple(known))
        theirs = self._other.marks(codes, {abs(letter): True for letter in known.values()})
        truth = _fewest_goals(ours, theirs)
        trees = {}
        for letter, mark in theirs.items():
            if mark == ours[truth]:
                word, told = self._walked({**known, truth: letter}, self._other.coded(codes, letter, len(known)))
                if word == "alike":
                    return word, told
                trees[letter] = told
            else:
                trees[letter] = _leaf_of_marks(tuple(known) + (truth,), ours[truth], mark)
        return "parted", ("ask", truth, trees)

    def _own(self, truths):
        """The codes and the marks of one, once these truths are known; they are the same wherever those go."""
        if truths not in self._kept:
            codes = self._one.sizes
            if truths != ():
                ahead, _ = self._own(truths[:-1])
                codes = self._one.coded(ahead, truths[-1], len(truths) - 1)
            self._kept[truths] = (codes, self._one.marks(codes, {truth: True for truth in truths}))
        return self._kept[truths]


class Side:
    """One of the two problems of a search."""

    def __init__(self, problem):
        self.sizes = [len(clause) for clause in problem.clauses]
        self._many = problem.many
        self._places = {letter: [] for letter in letters_beside({}, problem.many)}
        for at, clause in enumerate(problem.clauses):
            for letter in clause:
                self._places[letter].append(at)

    def coded(self, codes, letter, step):
        """The codes once it is known, as the truth of this step, which letter this is."""
        found = list(codes)
        for sign, way in ((1, letter), (2, -letter)):
            for at in self._places[way]:
                found[at] = found[at] | _bit_of(step, sign)
        return found

    def marks(self, codes, used):
        """For each letter of no used truth the falling codes of its clauses, and of those of its other sign."""
        found = {}
        for letter in letters_beside(used, self._many):
            found[letter] = tuple(sorted([codes[at] for at in self._places[letter]], reverse=True))
        return {letter: (found[letter], found[-letter]) for letter in found}


def _bit_of(step, sign):
    return sign << _SIZE_BITS + 2 * step


def _fewest_goals(ours, theirs):
    """The truth, not known yet, that may go to the fewest letters without a count that differs."""
    often = {}
    for mark in theirs.values():
        often[mark] = often.get(mark, 0) + 1
    return min([(often.get(mark, 0), truth) for truth, mark in ours.items() if truth > 0])[1]


def _first_unlike(ours, theirs):
    """The greatest code that isn't as often in both falling lists, None where there is none.

    A code of this size with the same letters and more is greater, thus as often in both. So
    by just the letters and the size of this one the counts of one and other differ.
    """
    for our, their in zip(ours, theirs):
        if our != their:
            return max(our, their)
    longer = ours if len(ours) > len(theirs) else theirs
    shorter = min(len(ours), len(theirs))
    return longer[shorter] if len(longer) > shorter else None


def _leaf_of_marks(truths, our, their):
    """The leaf for the last of the truths, of this mark, where it goes to a letter of another mark."""
    code, sign = _first_unlike(our[0], their[0]), 1
    if code is None:
        code, sign = _first_unlike(our[1], their[1]), 2
    return _count_leaf(truths, code | _bit_of(len(truths) - 1, sign))


def _count_leaf(truths, code):
    """The leaf by the letters and the size of the code."""
    letters = []
    for step, truth in enumerate(truths):
        if code & _bit_of(step, 1):
            letters.append(truth)
        elif code & _bit_of(step, 2):
            letters.append(-truth)
    return "count", tuple(sorted(letters, key=abs)), code & (_SIZES - 1)
