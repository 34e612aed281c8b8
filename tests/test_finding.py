"""all_turns, alike and formed, against a trial of all turns, and known groups of up to twelve truths."""

import itertools
import math
import random
import unittest

from turning import M12, all_clauses, all_of, clause_by, fitting, judged, led, leads, random_problem, random_turn

from turnless.errors import TooMany
from turnless.finding import all_turns, alike, formed, shown
from turnless.groups import Group
from turnless.problems import Problem
from turnless.trees import shows_all, shows_parted
from turnless.turns import fits, is_turn

PROBLEMS = [Problem(many, clauses) for many, clauses in [
    (1, []), (1, [[]]), (1, [[1]]), (1, [[-1]]), (1, [[1], [-1]]), (1, [[], [1], [-1]]), (2, []), (2, [[]]), (2, [[1]]),
    (2, [[1], [2]]), (2, [[1], [-2]]), (2, [[1, 2]]), (2, [[1, -2], [-1, 2]]), (2, [[1, 2], [1, -2]]), (2, [[1], [1, 2]]),
    (3, []), (3, [[], [1, 2, 3]]), (3, [[1, 2], [2, 3], [1, 3]]), (3, [[1, -2], [2, -3], [3, -1]]), (3, [[1, 2], [3]]),
    (3, [[1, 2, 3], [-1, -2, -3]]), (3, [[1], [2, 3], [-2, -3]]), (3, [[1, -2], [2, -3]]), (3, [[1, 2, 3], [1, -2]]),
    (4, []), (4, [[]]), (4, [[1, 2], [3, 4]]), (4, [[1, 2], [2, 3], [3, 4], [4, 1]]), (4, [[1, -2], [2, -3], [3, -4], [4, -1]]),
    (4, [[1, 2], [-1, -2], [3, 4], [-3, -4]]), (4, [[1, 2], [-1, -2], [3, 4], [3, -4]]), (4, [[1, 2, 3, 4]]),
    (4, [[1, 2, 3], [1, 2, 4], [1, 3, 4], [2, 3, 4]]), (4, [[1], [2], [1, 2, 3], [-4]]), (4, [[1, 2, 3], [-1, -2, 4]]),
    (4, [[1, 2], [1, 3], [1, 4], [2, 3, 4]]), (4, [[1, 2], [2, 3], [3, 4]]), (4, all_clauses(4)[20:60]), (4, all_clauses(4)),
]]


def some_problems():
    chance = random.Random(10)
    return PROBLEMS + [random_problem(chance, many) for many in (2, 3, 3, 3, 4, 4, 4, 4, 4, 4)]


def ring(lengths):
    """Rings of positive pairs, one behind the other."""
    found, first = [], 1
    for length in lengths:
        found += [[first + at, first + (at + 1) % length] for at in range(length)]
        first += length
    return found


def no_parity(truths, odd):
    """The clauses that the answers with an odd number of these truths that are so leave, or those with an even one."""
    found = []
    for signs in itertools.product((1, -1), repeat=len(truths)):
        if signs.count(1) % 2 == odd:
            found.append([truth * sign for truth, sign in zip(truths, signs)])
    return found


def petersen():
    pairs = list(itertools.combinations(range(5), 2))
    return [[pairs.index(one) + 1, pairs.index(other) + 1]
            for one, other in itertools.combinations(pairs, 2) if not set(one) & set(other)]


def hexads():
    """The 132 clauses of a Steiner system: of each five truths just one has all."""
    for first in itertools.combinations(range(1, 13), 6):
        found, left = {first}, [first]
        while left:
            clause = left.pop()
            for maker in M12:
                other = clause_by(maker, clause)
                if other not in found:
                    found.add(other)
                    left.append(other)
        if len(found) == 132:
            return sorted(found)
    raise ValueError("no such first clause")


def hadamard():
    """The rows of a Hadamard matrix of order twelve and their other signs, as clauses."""
    rows = [[1] * 12]
    for one in range(11):
        rows.append([1] + [1 if (other - one) % 11 in (1, 3, 4, 5, 9) else -1 for other in range(11)])
    return [[(at + 1) * sign * worth for at, worth in enumerate(row)] for row in rows for sign in (1, -1)]


class AllTurns(unittest.TestCase):
    def test_against_a_trial_of_all_turns(self):
        for problem in some_problems():
            group = all_turns(problem)
            right = fitting(problem)
            self.assertIs(type(group), Group)
            self.assertEqual((group.truths(), group.size()), (problem.many, len(right)))
            self.assertEqual(group.turns(), right)
            for turn in all_of(problem.many):
                self.assertIs(group.has(turn), fits(problem, turn))

    def test_known_groups_of_up_to_twelve_truths(self):
        chance = random.Random(11)
        for many, clauses, size in (
            (12, [], math.factorial(12) * 2 ** 12), (12, [[]], math.factorial(12) * 2 ** 12),
            (12, [[k] for k in range(1, 13)], math.factorial(12)),
            (12, list(itertools.combinations(range(1, 13), 2)), math.factorial(12)),
            (12, [list(range(1, 13))], math.factorial(12)),
            (12, [[1, 2, 3], [4, 5, 6], [7, 8, 9], [10, 11, 12]], 6 ** 4 * 24),
            (12, [[k, k + 1] for k in range(1, 13, 2)] + [[-k, -k - 1] for k in range(1, 13, 2)], 4 ** 6 * 720),
            (12, ring([12]), 24), (12, ring([6, 6]), 12 ** 2 * 2), (12, ring([5, 7]), 140), (12, ring([3] * 4), 6 ** 4 * 24),
            (12, [[-k, k % 12 + 1] for k in range(1, 13)], 24), (12, [[1, -k] for k in range(2, 13)], math.factorial(11)),
            (11, ring([11]), 22), (10, petersen(), 120), (12, petersen(), 120 * 8), (12, hexads(), 95040),
            (12, hadamard(), 190080), (9, no_parity(range(1, 10), 1), math.factorial(9) * 2 ** 8),
            (12, no_parity([1, 2, 3], 0) + no_parity([4, 5, 6], 1), 24 ** 2 * 2 * 720 * 2 ** 6),
            (12, [[k] for k in range(1, 6)] + [[-k] for k in range(6, 13)], math.factorial(12)),
            (12, [[k, -k - 1] for k in range(1, 12)], 2), (8, [[k, k + 1] for k in range(1, 8)], 2),
            (12, [list(range(1, k)) for k in range(2, 14)], 1),
        ):
            problem = Problem(many, clauses)
            for other in (problem, led(random_turn(chance, many), problem)):
                group = all_turns(other)
                self.assertEqual(group.size(), size, clauses)
                self.assertTrue(all(fits(other, maker) for maker in group.makers()))

    def test_known_members(self):
        group = all_turns(Problem(12, ring([12])))
        self.assertTrue(group.has(tuple(range(2, 13)) + (1,)))
        self.assertTrue(group.has(tuple(range(12, 0, -1))))
        self.assertFalse(group.has((2, 1) + tuple(range(3, 13))))
        self.assertFalse(group.has(tuple(range(-1, -13, -1))))

    def test_asked_again_it_is_the_same(self):
        for problem in PROBLEMS:
            one, other = all_turns(problem), all_turns(problem)
            self.assertEqual((one.makers(), one.base(), one.floors()), (other.makers(), other.base(), other.floors()))

    def test_many_clauses(self):
        chance = random.Random(12)
        clauses = [[truth * chance.choice((1, -1)) for truth in chance.sample(range(1, 13), 3)] for _ in range(395)]
        self.assertEqual(all_turns(Problem(12, clauses)).size(), 1)


class Alike(unittest.TestCase):
    def assert_told(self, one, other, right):
        told = alike(one, other)
        self.assertEqual((type(told), len(told)), (tuple, 2))
        word, thing = told
        self.assertEqual(word, "alike" if right else "parted", (one.clauses, other.clauses))
        if right:
            self.assertTrue(is_turn(thing, one.many))
            self.assertTrue(leads(thing, one, other))
        else:
            self.assertTrue(judged(one, other, {}, thing))
        self.assertIs(shows_parted(one, other, thing), not right)
        self.assertEqual(alike(one, other), told)

    def test_all_pairs_of_some(self):
        some = [problem for problem in some_problems() if problem.many < 4]
        some += [problem for problem in some_problems() if problem.many == 4][::3]
        for one, other in itertools.product(some, repeat=2):
            right = one.many == other.many and any(leads(turn, one, other) for turn in all_of(one.many))
            self.assert_told(one, other, right)

    def test_turned_ones(self):
        chance = random.Random(13)
        for problem in some_problems():
            self.assert_told(problem, led(random_turn(chance, problem.many), problem), True)
        for many, clauses in ((12, []), (12, ring([12])), (12, ring([4] * 3)), (10, petersen()), (12, hexads()), (12, hadamard())):
            problem = Problem(many, clauses)
            self.assert_told(problem, led(random_turn(chance, many), problem), True)

    def test_one_letter_or_clause_changed(self):
        chance = random.Random(14)
        for problem in [some for some in some_problems() if some.clauses and some.many < 4]:
            clauses = [list(clause) for clause in problem.clauses]
            at = chance.randrange(len(clauses))
            over = [-letter for letter in clauses[at]]
            for others in (clauses[:at] + clauses[at + 1:], clauses[:at] + [over] + clauses[at + 1:], clauses + [[1]]):
                other = led(random_turn(chance, problem.many), Problem(problem.many, others))
                right = any(leads(turn, problem, other) for turn in all_of(problem.many))
                self.assert_told(problem, other, right)
                self.assert_told(other, problem, right)

    def test_parted_ones_of_many_truths(self):
        prism = ring([5, 5]) + [[k, k + 5] for k in range(1, 6)]
        swapped = hexads()[1:] + [list(range(1, 7)) if tuple(range(1, 7)) not in hexads() else [1, 2, 3, 4, 5, 7]]
        for many, one, other in (
            (12, ring([12]), ring([6, 6])), (12, ring([6, 6]), ring([4, 4, 4])), (12, ring([5, 7]), ring([8, 4])),
            (12, [], [[]]), (12, [[1]], []), (12, [[1]], [[1, 2]]), (12, [[1], [-1]], [[1], [2]]), (10, petersen(), prism),
            (10, prism, petersen()), (12, swapped, hexads()), (12, ring([12]), ring([11]) + [[1, 12]]),
            (6, sum([no_parity(list(told), 0) for told in ((1, 2, 3), (1, 4, 5), (2, 4, 6), (3, 5, 6))], []),
             sum([no_parity(list(told), 0) for told in ((1, 2, 3), (1, 4, 5), (2, 4, 6))], []) + no_parity([3, 5, 6], 1)),
            (8, [[k] for k in range(1, 5)] + [[-k] for k in range(1, 5)], [[k] for k in range(1, 4)] + [[-k] for k in (1, 2, 3, 4, 5)]),
        ):
            self.assert_told(Problem(many, one), Problem(many, other), False)

    def test_unlike_many_truths(self):
        for one, other in ((1, 2), (2, 1), (12, 11), (1, 12)):
            self.assertEqual(alike(Problem(one), Problem(other)), ("parted", ("many",)))
            self.assertEqual(alike(Problem(one, [[1]]), Problem(other, [[1]])), ("parted", ("many",)))

    def test_with_itself(self):
        for problem in PROBLEMS:
            self.assert_told(problem, problem, True)

    def test_the_tree_is_the_askers_own(self):
        one, other = Problem(3, [[1, -2], [2, -3]]), Problem(3, [[1, -2], [-2, 3]])
        word, tree = alike(one, other)
        self.assertEqual((word, tree[0]), ("parted", "ask"))
        tree[2].clear()
        self.assertTrue(shows_parted(one, other, alike(one, other)[1]))


class Shown(unittest.TestCase):
    def test_its_paper_shows_it(self):
        for problem in some_problems():
            told = shown(problem)
            self.assertEqual((type(told), len(told)), (tuple, 2))
            group, paper = told
            self.assertIs(type(group), Group)
            self.assertEqual(group.turns(), fitting(problem))
            self.assertEqual(group, all_turns(problem))
            self.assertIs(type(paper), dict)
            self.assertTrue(shows_all(problem, group, paper))

    def test_of_twelve_truths(self):
        for many, clauses in ((12, []), (12, ring([12])), (12, ring([5, 7])), (12, hexads()), (12, hadamard()), (10, petersen())):
            problem = Problem(many, clauses)
            group, paper = shown(problem)
            self.assertEqual(group, all_turns(problem))
            self.assertTrue(shows_all(problem, group, paper))

    def test_the_paper_is_the_askers_own(self):
        problem = Problem(3, [[1, -2], [2, -3]])
        _, paper = shown(problem)
        ahead = repr(paper)
        for pair in list(paper):
            if paper[pair][0] == "ask":
                paper[pair][2].clear()
        paper.clear()
        self.assertEqual(repr(shown(problem)[1]), ahead)


class Formed(unittest.TestCase):
    def assert_least(self, problem):
        told = formed(problem)
        self.assertEqual((type(told), len(told)), (tuple, 2))
        form, turn = told
        self.assertIs(type(form), Problem)
        self.assertTrue(is_turn(turn, problem.many))
        self.assertEqual(led(turn, problem), form)
        least = min(led(other, problem).clauses for other in all_of(problem.many))
        self.assertEqual((form.many, form.clauses), (problem.many, least))

    def test_against_a_trial_of_all_turns(self):
        for problem in some_problems():
            self.assert_least(problem)

    def test_of_five_truths(self):
        self.assert_least(Problem(5, [[1, -2], [2, 3], [-3, 4, 5], [1, 5], [-4]]))

    def test_by_the_words(self):
        for many, clauses, least in (
            (3, [], ()), (3, [[]], ((),)), (3, [[2]], ((-3,),)), (3, [[1], [-1]], ((-3,), (3,))), (3, [[1], [2]], ((-3,), (-2,))),
            (3, [[1, 2]], ((-2, -3),)), (3, [[1, 2], [2, 3]], ((-2, -3), (-1, -3))), (2, [[1, 2], [-1, -2]], ((-1, -2), (1, 2))),
            (6, [[1, 2, 3]], ((-4, -5, -6),)), (6, [[3], [-3, 1, 2]], ((-6,), (-4, -5, 6))),
        ):
            self.assertEqual(formed(Problem(many, clauses))[0].clauses, least)

    def test_turned_ones_have_the_same(self):
        chance = random.Random(15)
        for many in (2, 3, 4, 5, 5, 6, 6):
            problem = random_problem(chance, many)
            form, turn = formed(problem)
            self.assertEqual(led(turn, problem), form)
            self.assertLessEqual(form.clauses, problem.clauses)
            other = led(random_turn(chance, many), problem)
            again, turn = formed(other)
            self.assertEqual(again, form)
            self.assertEqual(led(turn, other), form)
            self.assertEqual(formed(form)[0], form)
            self.assertEqual(formed(other), (again, turn))

    def test_of_six_truths_with_many_clauses(self):
        clauses = all_clauses(6)
        for told in (clauses[:400], clauses[13:73], clauses[14:73], clauses[73:233] + clauses[:20], ring([6]), ring([3, 3])):
            problem = Problem(6, told)
            form, turn = formed(problem)
            self.assertEqual(led(turn, problem), form)
            self.assertEqual(formed(led((-2, 4, -6, 1, 3, -5), problem))[0], form)

    def test_forms_tell_the_same_as_alike(self):
        some = [problem for problem in some_problems() if problem.many == 3]
        for one, other in itertools.product(some, repeat=2):
            self.assertEqual(formed(one)[0] == formed(other)[0], alike(one, other)[0] == "alike")


class MoreThanTwelveTruths(unittest.TestCase):
    def test_refused(self):
        for many in (13, 14, 400):
            problem = Problem(many, [[1, 2]])
            for call in (all_turns, shown, formed):
                self.assertRaises(TooMany, call, problem)
            self.assertRaises(TooMany, alike, problem, problem)

    def test_formed_of_more_than_six(self):
        for many in (7, 8, 12):
            self.assertRaises(TooMany, formed, Problem(many))
        self.assertEqual(formed(Problem(6))[0], Problem(6))

    def test_ahead_of_all(self):
        for one, other in ((13, 13), (13, 2), (2, 13), (13, 14), (12, 13), (13, 12)):
            self.assertRaises(TooMany, alike, Problem(one), Problem(other))

    def test_twelve_are_none_too_many(self):
        problem = Problem(12, [[k] for k in range(1, 13)])
        self.assertEqual(all_turns(problem).size(), math.factorial(12))
        self.assertEqual(shown(problem)[0].truths(), 12)
        self.assertEqual(alike(problem, problem)[0], "alike")


if __name__ == "__main__":
    unittest.main()
