"""What the tests know of turns, groups, trees and papers by themselves, by the words of the document."""

import itertools

from turnless.problems import Problem

WRONG_MANY = [0, -1, 401, 402, 10 ** 9, -10 ** 9]


def goes(turn, letter):
    return turn[letter - 1] if letter > 0 else -turn[-letter - 1]


def clause_by(turn, clause):
    return tuple(sorted((goes(turn, letter) for letter in clause), key=abs))


def behind(one, other):
    """First one, then other."""
    return tuple(goes(other, goes(one, k)) for k in range(1, len(one) + 1))


def letters_of(many):
    return [letter for letter in range(-many, many + 1) if letter != 0]


def all_of(many):
    """All turns of so many truths, rising."""
    found = []
    for truths in itertools.permutations(range(1, many + 1)):
        for signs in itertools.product((1, -1), repeat=many):
            found.append(tuple(truth * sign for truth, sign in zip(truths, signs)))
    return sorted(found)


def products(many, makers):
    """All products of the makers, and still, rising."""
    first = tuple(range(1, many + 1))
    found, left = {first}, [first]
    while left:
        turn = left.pop()
        for maker in makers:
            other = behind(turn, maker)
            if other not in found:
                found.add(other)
                left.append(other)
    return sorted(found)


def leads(turn, one, other):
    """Whether one's clauses go to just all of other's."""
    return {clause_by(turn, clause) for clause in one.clauses} == set(other.clauses)


def led(turn, problem):
    return Problem(problem.many, [clause_by(turn, clause) for clause in problem.clauses])


def fitting(problem):
    return [turn for turn in all_of(problem.many) if leads(turn, problem, problem)]


def all_clauses(many):
    found = []
    for size in range(many + 1):
        for truths in itertools.combinations(range(1, many + 1), size):
            for signs in itertools.product((1, -1), repeat=size):
                found.append(tuple(truth * sign for truth, sign in zip(truths, signs)))
    return found


def random_problem(chance, many):
    share = chance.choice((0.03, 0.1, 0.3, 0.5, 0.8, 0.95))
    return Problem(many, [clause for clause in all_clauses(many) if chance.random() < share][:400])


def random_turn(chance, many):
    truths = chance.sample(range(1, many + 1), many)
    return tuple(truth * chance.choice((1, -1)) for truth in truths)


def cycled(many, *cycles):
    """The turn that leads each letter of a cycle to the next, the last to the first."""
    goals = list(range(1, many + 1))
    for cycle in cycles:
        for letter, goal in zip(cycle, cycle[1:] + cycle[:1]):
            goals[abs(letter) - 1] = goal if letter > 0 else -goal
    return tuple(goals)


# Makers of a group of 95040 turns.
M12 = [
    cycled(12, tuple(range(1, 12))), cycled(12, (3, 7, 11, 8), (4, 10, 5, 6)),
    cycled(12, (1, 12), (2, 11), (3, 6), (4, 8), (5, 9), (7, 10)),
]


# Trees and papers.


def is_plain(thing):
    return type(thing) is int


def standing(problem, letters, size):
    return sum(1 for clause in problem.clauses if len(clause) == size and all(k in clause for k in letters))


def judged(one, other, known, tree):
    """Whether the tree is one for what is known, a dict from truths to letters."""
    if type(tree) is not tuple or not tree or type(tree[0]) is not str:
        return False
    if tree[0] == "many":
        return len(tree) == 1 and one.many != other.many
    if one.many != other.many or len(tree) != 3:
        return False
    if tree[0] == "count":
        return judged_count(one, other, known, tree[1], tree[2])
    return tree[0] == "ask" and judged_ask(one, other, known, tree[1], tree[2])


def judged_count(one, other, known, letters, size):
    if type(letters) is not tuple or not all(is_plain(k) and abs(k) in known for k in letters) or not is_plain(size):
        return False
    truths = [abs(k) for k in letters]
    if truths != sorted(set(truths)):
        return False
    goals = [known[k] if k > 0 else -known[-k] for k in letters]
    return standing(one, letters, size) != standing(other, goals, size)


def judged_ask(one, other, known, truth, trees):
    if not is_plain(truth) or truth not in range(1, one.many + 1) or truth in known or type(trees) is not dict:
        return False
    used = [abs(letter) for letter in known.values()]
    free = [letter for letter in letters_of(one.many) if abs(letter) not in used]
    if not all(is_plain(letter) for letter in trees) or sorted(trees) != free:
        return False
    return all(judged(one, other, {**known, truth: letter}, trees[letter]) for letter in free)


def plain_tree(one, other, known):
    """A tree for what is known, found by asking for truth after truth; None where there is none."""
    leaf = plain_leaf(one, other, known)
    if leaf is not None:
        return leaf
    left = [truth for truth in range(1, one.many + 1) if truth not in known]
    if not left:
        return None
    used = [abs(letter) for letter in known.values()]
    trees = {}
    for letter in letters_of(one.many):
        if abs(letter) not in used:
            trees[letter] = plain_tree(one, other, {**known, left[-1]: letter})
            if trees[letter] is None:
                return None
    return "ask", left[-1], trees


def plain_leaf(one, other, known):
    if one.many != other.many:
        return ("many",)
    for letters in all_clauses(one.many):
        for size in range(one.many + 1):
            if judged_count(one, other, known, letters, size):
                return "count", letters, size
    return None


def papers_gaps(many, turns, base):
    """What is known for each pair of a paper, by all turns of the group and its base."""
    order = [abs(letter) for letter in base]
    order += [truth for truth in range(1, many + 1) if truth not in order]
    found = {}
    for at, truth in enumerate(order):
        ahead = order[:at]
        staying = [turn for turn in turns if all(goes(turn, k) == k for k in ahead)]
        reached = {goes(turn, truth) for turn in staying}
        for letter in letters_of(many):
            if abs(letter) not in ahead and letter not in reached:
                found[(truth, letter)] = {**{k: k for k in ahead}, truth: letter}
    return found


def judged_paper(problem, turns, base, paper):
    """Whether it is a paper for the group of these turns, all of which fit."""
    if type(paper) is not dict:
        return False
    for key in paper:
        if type(key) is not tuple or len(key) != 2 or not all(is_plain(k) for k in key):
            return False
    wanted = papers_gaps(problem.many, turns, base)
    if set(paper) != set(wanted):
        return False
    return all(judged(problem, problem, wanted[pair], paper[pair]) for pair in wanted)


def plain_paper(problem, turns, base):
    """A paper for the group of these turns, with None for a tree that there isn't."""
    wanted = papers_gaps(problem.many, turns, base)
    return {pair: plain_tree(problem, problem, wanted[pair]) for pair in wanted}


def changed(thing):
    """The thing with one thing in it changed, each time another one; the thing itself stays."""
    if type(thing) is tuple:
        yield from changed_tuple(thing)
    elif type(thing) is dict:
        yield from changed_dict(thing)
    elif type(thing) is str:
        yield from [thing.upper(), thing + " ", thing[:-1], "", thing.encode(), None, 1, (thing,)]
    elif type(thing) is int:
        yield from [thing + 1, thing - 1, -thing, 0, 13, 10 ** 9, bool(thing), float(thing), str(thing), None, (thing,)]
    yield from [None, True, 0, "", "ask", "count", "many", [], (), {}, ("many",), ("count", (), 0)]


def changed_tuple(thing):
    yield list(thing)
    yield thing + (1,)
    yield thing + (("many",),)
    for at, inner in enumerate(thing):
        yield thing[:at] + thing[at + 1:]
        yield thing[:at] + (inner, inner) + thing[at + 1:]
        if at > 0:
            yield thing[:at - 1] + (inner, thing[at - 1]) + thing[at + 1:]
        for other in changed(inner):
            yield thing[:at] + (other,) + thing[at + 1:]


def changed_dict(thing):
    yield list(thing.items())
    yield tuple(thing.items())
    inner = next(iter(thing.values()), ("count", (), 0))
    for key in (0, 99, -99, 1, -1, True, "1", None, 1.5, (), (1, 1), (1, 2), (1, -1), (True, 2), (1,)):
        if key not in thing:
            yield {**thing, key: inner}
    for key in thing:
        yield {other: thing[other] for other in thing if other != key}
        for new in changed_key(key):
            yield {(new if other == key else other): thing[other] for other in thing}
        for other in changed(thing[key]):
            yield {**thing, key: other}


def changed_key(key):
    """The key as another thing, be it one that is equal to it."""
    if type(key) is int:
        return [float(key), str(key), -key, key + 1, (key,)] + ([True] if key == 1 else [])
    if type(key) is not tuple or len(key) != 2:
        return []
    one, other = key
    found = [(float(one), other), (one, float(other)), (other, one), (one,), (one, other, 0), (one, -other), (-one, other)]
    return found + ([(True, other)] if one == 1 else []) + ([(one, True)] if other == 1 else [])
