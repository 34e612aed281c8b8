"""Trees that show of two problems that no turn leads one to the other: small judges read them, who know no groups."""

from turnless.letters import is_clause, is_letter, is_number, letters_beside, word_of
from turnless.turns import fits


def shows_parted(one, other, tree):
    """Whether the tree, of any kind, is one for one and other with nothing known."""
    return Reader(one, other).is_tree(tree, {})


def shows_all(problem, group, paper):
    """Whether the paper, of any kind, shows of the group that it is all turns of the problem."""
    if group.truths() != problem.many or not all([fits(problem, maker) for maker in group.makers()]):
        return False
    wanted = gaps(group)
    # Pairs of numbers alone are looked for among the keys, as other things may be equal to them.
    if type(paper) != dict or len(paper) != len(wanted) or not all([_is_pair(key) for key in paper]):
        return False
    reader = Reader(problem, problem)
    return all([pair in paper and reader.is_tree(paper[pair], wanted[pair]) for pair in wanted])


def gaps(group):
    """A dict from the pairs for which a paper has trees, each to what is known for its tree.

    A pair is a truth and a letter to which no turn of the group leads it that leaves the
    truths ahead: those of the base, in its order, come first, then the others, rising.
    """
    found = {}
    ahead = {}
    for truth, goals in _reached(group).items():
        for letter in letters_beside(ahead, group.truths()):
            if letter not in goals:
                found[(truth, letter)] = {**ahead, truth: letter}
        ahead[truth] = truth
    return found


def _reached(group):
    """For each truth, in the order of a paper, the letters to which it goes while those ahead stay."""
    found = {}
    for letter, floor in zip(group.base(), group.floors()):
        found[abs(letter)] = [goal if letter > 0 else -goal for goal in floor]
    for truth in range(1, group.truths() + 1):
        # Where all of the base stays, all letters do.
        found.setdefault(truth, [truth])
    return found


def _is_pair(thing):
    return type(thing) == tuple and len(thing) == 2 and is_number(thing[0]) and is_number(thing[1])


class Reader:
    """Reads trees for two problems."""

    def __init__(self, one, other):
        self._many = one.many
        self._as_many = one.many == other.many
        self._ones = Counts(one)
        self._others = Counts(other)

    def is_tree(self, tree, known):
        """Whether the tree, of any kind, is one for the letters to which the known truths go."""
        if not self._as_many:
            return word_of(tree) == "many" and len(tree) == 1
        # By a list, as a tree may be far deeper than calls may be; what is known is joined late, as many trees wait.
        left = [(tree, known, {})]
        while left:
            tree, ahead, last = left.pop()
            known = {**ahead, **last}
            if self._is_ask(tree, known):
                left.extend([(inner, known, {tree[1]: letter}) for letter, inner in tree[2].items()])
            elif not self._is_count(tree, known):
                return False
        return True

    def _is_ask(self, tree, known):
        """Whether it is an ask, whatever its trees are."""
        if word_of(tree) != "ask" or len(tree) != 3:
            return False
        truth, trees = tree[1], tree[2]
        if not is_number(truth) or not 1 <= truth <= self._many or truth in known or type(trees) != dict:
            return False
        used = {abs(letter): True for letter in known.values()}
        # As keys are unlike, as many as there are letters beside the used ones are all of these.
        return len(trees) == 2 * (self._many - len(used)) and all(
            [is_letter(letter, self._many) and abs(letter) not in used for letter in trees]
        )

    def _is_count(self, tree, known):
        """Whether it is a count by which one and other differ."""
        if word_of(tree) != "count" or len(tree) != 3:
            return False
        letters, size = tree[1], tree[2]
        if not is_number(size) or not is_clause(letters, self._many):
            return False
        if not all([abs(letter) in known for letter in letters]):
            return False
        goals = [known[letter] if letter > 0 else -known[-letter] for letter in letters]
        return self._ones.how_many(letters, size) != self._others.how_many(goals, size)


class Counts:
    """How many clauses of a problem there are of a size and with some letters; a bit stands for each clause."""

    def __init__(self, problem):
        self._of_size = {}
        self._of_letter = {}
        for at, clause in enumerate(problem.clauses):
            bit = 1 << at
            self._of_size[len(clause)] = self._of_size.get(len(clause), 0) | bit
            for letter in clause:
                self._of_letter[letter] = self._of_letter.get(letter, 0) | bit

    def how_many(self, letters, size):
        """In how many clauses of this size these letters stand together."""
        bits = self._of_size.get(size, 0)
        for letter in letters:
            bits = bits & self._of_letter.get(letter, 0)
        word = f"{bits:b}"
        return word.count("1")
