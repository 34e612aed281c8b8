"""shows_parted and shows_all: right trees and papers, and each with one thing changed anywhere."""

import copy
import itertools
import random
import unittest

from things import Odd, no_lists, no_numbers
from turning import (
    all_of, changed, fitting, judged, judged_paper, letters_of, papers_gaps, plain_paper, plain_tree, products,
    random_problem,
)

from turnless.finding import alike, shown
from turnless.groups import Group
from turnless.problems import Problem
from turnless.trees import shows_all, shows_parted

# Pairs of problems that no turn leads one to the other.
PARTED = [(Problem(many, one), Problem(many, other)) for many, one, other in [
    (1, [], [[]]), (1, [[1]], [[1], [-1]]), (2, [[1], [-1]], [[1], [2]]), (2, [[1, 2], [-1, -2]], [[1, 2], [1, -2]]),
    (2, [[1], [1, 2]], [[1], [-1, 2]]), (3, [[1, -2], [2, -3]], [[1, -2], [-2, 3]]),
    (3, [[1, 2], [2, 3], [1, 3]], [[1, 2], [2, 3], [1, -3]]), (3, [[1], [2, 3]], [[1], [1, 3]]),
    (3, [[1, 2, 3], [-1, -2, -3]], [[1, 2, 3], [1, -2, -3]]), (3, [[1, 2], [3]], [[1, 2], [2]]),
]]

# Problems, each with makers of all its turns, and a base.
GROUPED = [
    (Problem(1, [[1]]), [], ()), (Problem(1), [(-1,)], ()), (Problem(2, [[1, 2]]), [(2, 1)], ()),
    (Problem(2, [[1, 2]]), [(2, 1)], (-2,)), (Problem(2, [[1], [1, 2]]), [], (2,)), (Problem(2, [[1]]), [(1, -2)], ()),
    (Problem(3, [[1, -2], [2, -3], [3, -1]]), [(2, 3, 1), (-3, -2, -1)], ()), (Problem(3, [[1, 2], [3]]), [(2, 1, 3)], ()),
    (Problem(3, [[1, 2], [3]]), [(2, 1, 3)], (3, -2)), (Problem(3, [[1, -2], [2, -3]]), [(-3, -2, -1)], (-3,)),
    (Problem(3, [[1, 2, 3]]), [(2, 3, 1), (2, 1, 3)], ()), (Problem(3, [[1, 2, 3]]), [(2, 3, 1), (2, 1, 3)], (2, -1, 3)),
    (Problem(3, [[1, 2], [-1, -2]]), [(2, 1, 3), (-1, -2, 3), (1, 2, -3)], (3,)),
]


class Leaves(unittest.TestCase):
    def test_many(self):
        for one, other in ((1, 2), (2, 1), (12, 13), (400, 399), (1, 400)):
            self.assertIs(shows_parted(Problem(one), Problem(other), ("many",)), True)
        for many in (1, 2, 13, 400):
            self.assertIs(shows_parted(Problem(many, [[1]]), Problem(many), ("many",)), False)

    def test_where_there_are_unlike_many_truths_no_other_tree_is_right(self):
        one, other = Problem(1, [[1]]), Problem(2)
        count = ("count", (), 1)
        trees = [count, ("count", (), 0), ("ask", 1, {letter: ("many",) for letter in letters_of(1)}),
                 ("ask", 1, {letter: ("many",) for letter in letters_of(2)}), ("ask", 1, {letter: count for letter in letters_of(2)})]
        for tree in trees + [("many", 1), ("many", ()), ("Many",), ["many"], "many", ("many", "many"), (b"many",), ()]:
            self.assertIs(shows_parted(one, other, tree), False, tree)
        self.assertIs(shows_parted(one, Problem(1), count), True)

    def test_counts_of_no_letters(self):
        one, other = Problem(3, [[1], [2], [1, 2]]), Problem(3, [[1], [1, 2], [2, 3], [1, 2, 3]])
        for size, right in ((1, True), (2, True), (3, True), (0, False), (4, False), (-1, False), (10 ** 9, False)):
            self.assertIs(shows_parted(one, other, ("count", (), size)), right)
        self.assertTrue(shows_parted(Problem(2, [[]]), Problem(2), ("count", (), 0)))
        self.assertTrue(shows_parted(Problem(400), Problem(400, [list(range(1, 401))]), ("count", (), 400)))

    def test_as_many_is_no_count(self):
        one, other = Problem(2, [[1], [2]]), Problem(2, [[1], [-1]])
        self.assertIs(shows_parted(one, other, ("count", (), 1)), False)

    def test_letters_stand_together_in_clauses_of_this_size(self):
        one, other = Problem(3, [[1, 2], [1, 2, 3]]), Problem(3, [[1, -2], [1, 2, 3]])
        # Where 1 goes to 1 and 2 to 2, the pair is no clause of other, and the three are.
        for leaf, right in (
            (("count", (1, 2), 2), True), (("count", (1, 2), 3), False), (("count", (1,), 2), False),
            (("count", (-2,), 2), True), (("count", (2,), 2), True), (("count", (1, -2), 2), True), (("count", (-1, 2), 2), False),
            (("count", (2, 1), 2), False), (("count", (1, 2, 3), 3), False), (("count", (1, 1), 2), False), (("count", (2, 2), 2), False),
            (("count", (1, -1), 2), False), (("count", (2, -2), 2), False), (("count", [1, 2], 2), False),
        ):
            inner = {letter: leaf if letter == 2 else self.some_leaf(one, other, {1: 1, 2: letter}) for letter in (-3, -2, 2, 3)}
            firsts = {letter: plain_tree(one, other, {1: letter}) for letter in letters_of(3)}
            firsts[1] = ("ask", 2, inner)
            self.assertIs(shows_parted(one, other, ("ask", 1, firsts)), right, leaf)

    def some_leaf(self, one, other, known):
        tree = plain_tree(one, other, known)
        self.assertTrue(judged(one, other, known, tree))
        return tree

    def test_letters_are_known(self):
        one, other = Problem(2, [[1], [-1]]), Problem(2, [[1], [2]])
        for letters in ((1,), (-1,), (2,), (1, 2)):
            self.assertIs(shows_parted(one, other, ("count", letters, 1)), False)
        right = {letter: ("count", (-1,), 1) if letter > 0 else ("count", (1,), 1) for letter in letters_of(2)}
        self.assertIs(shows_parted(one, other, ("ask", 1, right)), True)
        for letters in ((2,), (-2,), (1, 2), (3,), (0,)):
            self.assertIs(shows_parted(one, other, ("ask", 1, {**right, 1: ("count", letters, 1)})), False)

    def test_what_letters_go_to_with_either_sign(self):
        one, other = Problem(1, [[1]]), Problem(1, [[-1]])
        tree = ("ask", 1, {1: ("count", (1,), 1), -1: ("count", (1,), 1)})
        self.assertIs(shows_parted(one, other, tree), False)
        one, other = Problem(2, [[1], [1, 2]]), Problem(2, [[-1], [1, 2]])
        firsts = {letter: ("count", (1,), 1) for letter in letters_of(2)}
        firsts[-1] = ("count", (1,), 2)
        self.assertIs(shows_parted(one, other, ("ask", 1, firsts)), True)
        firsts[-1] = ("count", (-1,), 2)
        self.assertIs(shows_parted(one, other, ("ask", 1, firsts)), True)
        firsts[-1] = ("count", (-1,), 1)
        self.assertIs(shows_parted(one, other, ("ask", 1, firsts)), False)


class Asks(unittest.TestCase):
    def setUp(self):
        self.one, self.other = Problem(2, [[1]]), Problem(2, [[1], [2]])
        self.leaf = ("count", (), 1)

    def assert_shows(self, tree, right):
        self.assertIs(shows_parted(self.one, self.other, tree), right, tree)

    def test_just_all_letters_of_truths_to_which_none_goes(self):
        trees = {letter: self.leaf for letter in (1, -1, 2, -2)}
        for truth in (1, 2):
            self.assert_shows(("ask", truth, trees), True)
            for letter in trees:
                self.assert_shows(("ask", truth, {k: trees[k] for k in trees if k != letter}), False)
            for key in no_numbers() + [0, 3, -3]:
                try:
                    more = {**trees, key: self.leaf}
                except TypeError:
                    continue
                if len(more) > 4:
                    self.assert_shows(("ask", truth, more), False)
        for trees in ({}, {1: self.leaf}, {True: self.leaf, -1: self.leaf, 2: self.leaf, -2: self.leaf},
                      {1.0: self.leaf, -1: self.leaf, 2: self.leaf, -2: self.leaf}):
            self.assert_shows(("ask", 1, trees), False)

    def test_asks_behind_asks(self):
        for truth, other in ((1, 2), (2, 1)):
            for first in (1, -1, 2, -2):
                inner = {letter: self.leaf for letter in letters_of(2) if abs(letter) != abs(first)}
                trees = {letter: self.leaf for letter in letters_of(2)}
                self.assert_shows(("ask", truth, {**trees, first: ("ask", other, inner)}), True)
                for wrong in (("ask", truth, inner), ("ask", other, trees), ("ask", 3, inner), ("ask", 0, inner),
                              ("ask", -other, inner), ("ask", other, {letter: self.leaf for letter in (first, -first)})):
                    self.assert_shows(("ask", truth, {**trees, first: wrong}), False)

    def test_no_truth_is_left_to_ask_for(self):
        one, other = Problem(1, [[1]]), Problem(1, [[1], [-1]])
        leaf = ("count", (), 1)
        self.assertTrue(shows_parted(one, other, ("ask", 1, {1: leaf, -1: leaf})))
        for truth in (1, 2, 0, -1):
            self.assertFalse(shows_parted(one, other, ("ask", 1, {1: leaf, -1: ("ask", truth, {})})))

    def test_the_order_of_the_keys_is_free(self):
        for letters in itertools.permutations((1, -1, 2, -2)):
            self.assert_shows(("ask", 2, {letter: self.leaf for letter in letters}), True)

    def test_truths_of_anything(self):
        trees = {letter: self.leaf for letter in letters_of(2)}
        for truth in no_numbers() + [0, -1, -2, 3, 10 ** 9]:
            self.assert_shows(("ask", truth, trees), False)

    def test_each_tree_is_looked_at(self):
        trees = {letter: self.leaf for letter in letters_of(2)}
        for letter in trees:
            for wrong in (None, ("many",), ("count", (), 2), ("count", (1, 2), 1), "count", {}):
                self.assert_shows(("ask", 1, {**trees, letter: wrong}), False)

    def test_as_deep_as_there_are_truths(self):
        one, other = Problem(400), Problem(400, [[1]])
        leaf = ("count", (), 1)
        for depth in (100, 400):
            self.assertIs(shows_parted(one, other, deep_tree(400, depth, leaf, leaf)), True)
            for last in (("count", (), 2), ("many",), ("ask", 401, {}), ("ask", 400, {}), ("ask", 1, {1: leaf, -1: leaf})):
                self.assertIs(shows_parted(one, other, deep_tree(400, depth, leaf, last)), False)

    def test_deeper_than_there_are_truths(self):
        tree = self.leaf
        for _ in range(20000):
            tree = ("ask", 1, {1: tree, -1: self.leaf, 2: self.leaf, -2: self.leaf})
        self.assert_shows(tree, False)
        trees = {letter: self.leaf for letter in letters_of(2)}
        trees[1] = ("ask", 2, trees)
        self.assert_shows(("ask", 1, trees), False)


def deep_tree(many, depth, leaf, last):
    """A tree that asks for truth after truth, each going to itself up to the last tree, the others being leaves."""
    tree = last
    for truth in range(depth, 0, -1):
        trees = {letter: leaf for letter in letters_of(many) if abs(letter) >= truth}
        tree = ("ask", truth, {**trees, truth: tree})
    return tree


class ShowsParted(unittest.TestCase):
    def right_trees(self):
        for one, other in PARTED:
            yield one, other, plain_tree(one, other, {})
            yield one, other, alike(one, other)[1]

    def test_right_trees(self):
        for one, other, tree in self.right_trees():
            self.assertTrue(judged(one, other, {}, tree))
            self.assertIs(shows_parted(one, other, tree), True)
        one, other, tree = PARTED[5][0], PARTED[5][1], alike(*PARTED[5])[1]
        self.assertTrue(shows_parted(one=one, other=other, tree=tree))

    def test_one_thing_changed_anywhere(self):
        wrong = 0
        for one, other, tree in self.right_trees():
            for thing in changed(tree):
                right = judged(one, other, {}, thing)
                wrong += not right
                self.assertIs(shows_parted(one, other, thing), right, (one.clauses, other.clauses, thing))
        self.assertGreater(wrong, 5000)

    def test_a_tree_for_other_problems(self):
        for one, other, tree in self.right_trees():
            self.assertIs(shows_parted(other, one, tree), judged(other, one, {}, tree))
            self.assertIs(shows_parted(one, one, tree), False)
            for first, second in PARTED:
                self.assertIs(shows_parted(first, second, tree), judged(first, second, {}, tree))

    def test_of_alike_ones_there_is_none(self):
        for one, _ in PARTED:
            for turn in all_of(one.many)[::7]:
                other = Problem(one.many, [[turn[abs(k) - 1] * (1 if k > 0 else -1) for k in clause] for clause in one.clauses])
                self.assertIsNone(plain_tree(one, other, {}))
                for _, _, tree in self.right_trees():
                    self.assertIs(shows_parted(one, other, tree), False)

    def test_of_anything(self):
        one, other = PARTED[5]
        for thing in no_lists() + no_numbers() + [("ask",), ("ask", 1), ("count", ()), ("count",), (1, 2, 3), (Odd(),),
                                                 ("count", Odd(), 1), (Odd(), 1, {}), ("ask", 1, Odd()), ("many", 1, 2)]:
            self.assertIs(shows_parted(one, other, thing), False, thing)
        for thing in no_lists():
            for tree in ((thing,), ("count", thing, 1), ("count", (), thing), ("count", (thing,), 1), ("ask", 1, thing),
                         ("ask", thing, {}), (thing, (), 1), ("ask", 1, {letter: thing for letter in letters_of(3)})):
                right = judged(one, other, {}, tree) if not isinstance(thing, (Odd, set)) else False
                self.assertIs(shows_parted(one, other, tree), right, tree)
        self.assertIs(shows_parted(Problem(1), Problem(2), (Odd(),)), False)

    def test_what_is_handed_in_stays(self):
        for one, other, tree in self.right_trees():
            ahead = copy.deepcopy(tree)
            shows_parted(one, other, tree)
            self.assertEqual(repr(tree), repr(ahead))

    def test_more_than_twelve_truths(self):
        one, other = Problem(13, [[1], [-1]]), Problem(13, [[1], [2]])
        tree = ("ask", 1, {letter: ("count", (-1 if letter in (1, 2) else 1,), 1) for letter in letters_of(13)})
        self.assertIs(shows_parted(one, other, tree), True)
        tree[2][2] = ("count", (1,), 1)
        self.assertIs(shows_parted(one, other, tree), False)


class ShowsAll(unittest.TestCase):
    def right_papers(self):
        for problem, makers, base in GROUPED:
            group = Group(problem.many, makers, base=base)
            yield problem, group, plain_paper(problem, products(problem.many, makers), group.base())
        for problem in [one for one, _ in PARTED] + [other for _, other in PARTED]:
            yield (problem, *shown(problem))

    def test_right_papers(self):
        for problem, group, paper in self.right_papers():
            self.assertTrue(judged_paper(problem, group.turns(), group.base(), paper))
            self.assertIs(shows_all(problem, group, paper), True)
        problem, group, paper = next(self.right_papers())
        self.assertTrue(shows_all(problem=problem, group=group, paper=paper))

    def test_right_papers_of_some_problems(self):
        chance = random.Random(16)
        for many in (2, 3, 3, 3):
            problem = random_problem(chance, many)
            turns = fitting(problem)
            for base in ((), (-many,), tuple(range(many, 0, -1))):
                group = Group(many, turns[:60], base=base)
                paper = plain_paper(problem, turns, group.base())
                self.assertIs(shows_all(problem, group, paper), True)

    def test_the_pairs_are_by_the_order_of_the_base(self):
        problem = Problem(3, [[1, 2], [3]])
        self.assertEqual(sorted(papers_gaps(3, fitting(problem), (1,))), sorted(shown(problem)[1]))
        by_3 = Group(3, [(2, 1, 3)], base=[3])
        self.assertIs(shows_all(problem, by_3, shown(problem)[1]), False)
        self.assertIn((3, 1), plain_paper(problem, fitting(problem), [3, 1]))
        self.assertIs(shows_all(problem, by_3, plain_paper(problem, fitting(problem), [3, 1])), True)
        by_minus_3 = Group(3, [(2, 1, 3)], base=[-3, 2])
        self.assertIs(shows_all(problem, by_minus_3, plain_paper(problem, fitting(problem), [3, 2])), True)
        self.assertIs(shows_all(problem, by_minus_3, plain_paper(problem, fitting(problem), [3, 1])), False)

    def test_one_thing_changed_anywhere(self):
        wrong = 0
        for problem, group, paper in self.right_papers():
            turns, base = group.turns(), group.base()
            for thing in changed(paper):
                right = judged_paper(problem, turns, base, thing)
                wrong += not right
                self.assertIs(shows_all(problem, group, thing), right, (problem.clauses, thing))
        self.assertGreater(wrong, 5000)

    def test_a_pair_more_or_less(self):
        for problem, group, paper in self.right_papers():
            leaf = next(iter(paper.values()), ("count", (), 0))
            for pair in paper:
                self.assertIs(shows_all(problem, group, {other: paper[other] for other in paper if other != pair}), False)
            for pair in itertools.product(range(-4, 5), repeat=2):
                if pair not in paper:
                    self.assertIs(shows_all(problem, group, {**paper, pair: leaf}), False)

    def test_the_order_of_the_keys_is_free(self):
        for problem, group, paper in self.right_papers():
            self.assertIs(shows_all(problem, group, {pair: paper[pair] for pair in list(paper)[::-1]}), True)

    def test_of_anything(self):
        for problem, group, paper in list(self.right_papers())[:8]:
            for thing in no_lists() + no_numbers() + [list(paper.items()), list(paper), tuple(paper), ("many",)]:
                right = thing == {} and type(thing) is dict and paper == {}
                self.assertIs(shows_all(problem, group, thing), right, thing)
        self.assertIs(shows_all(Problem(1), Group(1, [(-1,)]), {}), True)

    def test_a_group_of_other_many_truths(self):
        for many in (1, 3, 4):
            self.assertIs(shows_all(Problem(2), Group(many), {}), False)
        self.assertIs(shows_all(Problem(13), Group(12), {}), False)
        self.assertIs(shows_all(Problem(1), Group(2, [(2, 1), (-1, 2)]), {}), False)
        problem = Problem(2, [[1, 2]])
        self.assertIs(shows_all(problem, Group(3, [(2, 1, 3)]), shown(problem)[1]), False)
        paper = {(1, -1): ("count", (1,), 1)}
        self.assertIs(shows_all(Problem(1, [[1]]), Group(1), paper), True)
        self.assertIs(shows_all(Problem(2, [[1]]), Group(1), paper), False)

    def test_makers_that_do_not_fit(self):
        whole = Group(3, [(2, 3, 1), (2, 1, 3), (-1, 2, 3)])
        self.assertIs(shows_all(Problem(3), whole, {}), True)
        self.assertIs(shows_all(Problem(3, [[1]]), whole, {}), False)
        for problem, group, paper in self.right_papers():
            if not group.has((-1,) + tuple(range(2, problem.many + 1))):
                more = Group(problem.many, group.makers() + [(-1,) + tuple(range(2, problem.many + 1))])
                wanted = papers_gaps(problem.many, more.turns(), more.base())
                self.assertIs(shows_all(problem, more, paper), False)
                self.assertIs(shows_all(problem, more, {pair: paper.get(pair, ("count", (), 0)) for pair in wanted}), False)

    def test_a_group_of_not_all_turns_has_none(self):
        problem = Problem(3, [[1, 2, 3]])
        for makers in ([], [(2, 3, 1)], [(2, 1, 3)]):
            group = Group(3, makers)
            paper = plain_paper(problem, products(3, makers), group.base())
            self.assertIn(None, list(paper.values()))
            self.assertIs(shows_all(problem, group, paper), False)
            for leaf in (("count", (), 3), ("count", (1,), 3), ("count", (-1,), 3), ("many",)):
                filled = {pair: paper[pair] or leaf for pair in paper}
                self.assertIs(shows_all(problem, group, filled), False)
            self.assertIs(shows_all(problem, group, shown(problem)[1]), False)

    def test_what_is_handed_in_stays(self):
        for problem, group, paper in self.right_papers():
            ahead, makers = copy.deepcopy(paper), group.makers()
            shows_all(problem, group, paper)
            self.assertEqual((repr(paper), group.makers()), (repr(ahead), makers))


if __name__ == "__main__":
    unittest.main()
