"""lesser, broken, left and kept, against trials of all worths, all answers and all turns."""

import copy
import random
import unittest

from plainly import (
    all_answers, all_worths, answer_by, is_least, is_lesser, is_right, kind_of, lesser_by, order_by,
)
from things import Odd, no_lists, no_numbers
from turning import all_of, fitting, products, random_problem, random_turn

from turnless.breaking import broken, kept, left, lesser
from turnless.errors import NoLetter, NoTurn, NotThere, TooMany
from turnless.finding import all_turns
from turnless.problems import Problem, answers

# Things that are no order of three truths.
NO_ORDERS = [
    [], [1, 2], [1, 2, 3, 4], [1, 2, 2], [1, 2, -2], [1, -1, 2, 3], [1, 2, 0], [1, 2, 4], [1, 2, -4], [True, 2, 3],
    [1, 2, 3.0], [1, 2, "3"], [1, 2, None], [1, (2,), 3], [(1, 2, 3)], (1, 2), (1, 1, 2), [[1, 2, 3]], [1, 2, [3]],
    [1, 2, Odd()], "123", b"123", {1: 1, 2: 2, 3: 3}, {1, 2, 3}, range(1, 4), 123, 0, True, False, Odd(),
]

# Problems, each with turns that fit it.
TURNED = [
    (Problem(1), [(-1,)]), (Problem(1, [[1], [-1]]), [(-1,), (1,)]), (Problem(1, [[1]]), [(1,)]),
    (Problem(2), [(2, 1)]), (Problem(2), [(2, -1), (-2, 1)]), (Problem(2, [[1, 2]]), [(2, 1), (1, 2), (2, 1)]),
    (Problem(2, [[]]), [(-1, -2)]), (Problem(3), [(2, 3, 1)]), (Problem(3), [(-1, -2, -3), (1, -3, 2)]),
    (Problem(3, [[1, 2, 3]]), [(2, 1, 3), (1, 3, 2)]), (Problem(3, [[1, -2], [2, -3], [3, -1]]), [(2, 3, 1), (-3, -2, -1)]),
    (Problem(4, [[1, 2], [3, 4]]), [(2, 1, 3, 4), (3, 4, 1, 2)]), (Problem(4), [(2, 3, 4, -1)]),
    (Problem(4, [[1, 2], [2, 3], [3, 4], [4, 1]]), []), (Problem(4, [[1, 2], [2, 3], [3, 4], [4, 1]]), [(2, 3, 4, 1)]),
]


def some_orders(chance, many, how_many):
    found = [None]
    for _ in range(how_many):
        found.append([truth * chance.choice((1, -1)) for truth in chance.sample(range(1, many + 1), many)])
    return found


def clauses_hold_somehow(clauses, many, answer, helpers):
    """Whether the clauses hold by the answer and some worths of the helpers, the truths behind many."""
    return any(is_right(clauses, answer + worths) for worths in all_worths(helpers))


class Lesser(unittest.TestCase):
    def test_in_full(self):
        for turn, first, order, wanted in [
            ((1,), 2, None, [(2,)]),
            ((-1,), 2, None, [(2,), (-1, -2)]),
            ((-1,), 5, [-1], [(5,), (1, -5)]),
            ((1, 2), 3, None, [(3,), (-1, -3, 4), (1, -3, 4)]),
            ((2, 1), 3, None, [(3,), (-1, 2, -3), (-1, -3, 4), (2, -3, 4), (1, -2, -4)]),
            ((-1, 2), 3, None, [(3,), (-1, -3), (-1, -3, 4)]),
            ((1, -2), 3, None, [(3,), (-1, -3, 4), (1, -3, 4), (-2, -4)]),
            ((2, -1), 7, [-2, 1], [(7,), (-1, 2, -7), (2, -7, 8), (-1, -7, 8), (-1, -2, -8)]),
            ((2, -1), 7, [1, -2], [(7,), (-1, -2, -7), (-1, -7, 8), (-2, -7, 8), (-1, 2, -8)]),
            ((3, 1, -2), 401, [2, -3, 1], [
                (401,), (-2, -3, -401), (-2, -401, 402), (-3, -401, 402), (-1, 3, -402), (3, -402, 403), (-1, -402, 403),
                (-1, 2, -403)]),
        ]:
            with self.subTest(turn=turn, order=order):
                told = lesser(turn, first, order=order)
                self.assertEqual(told, wanted)
                self.assertIs(type(told), list)
                self.assertTrue(all(type(clause) is tuple for clause in told))

    def test_of_all_turns_of_few_truths_by_some_orders(self):
        chance = random.Random(20)
        turns = all_of(1) + all_of(2) + all_of(3) + [random_turn(chance, many) for many in (4, 5, 7, 12, 12) for _ in range(5)]
        for turn in turns:
            many = len(turn)
            for order in some_orders(chance, many, 3):
                for first in (many + 1, many + 7, 1000):
                    told = lesser(turn, first, order=order)
                    self.assertEqual(told, lesser_by(turn, first, order_by(many, order)))

    def test_of_400_truths(self):
        turn = tuple(range(2, 401)) + (-1,)
        self.assertEqual(lesser(turn, 401), lesser_by(turn, 401, range(1, 401)))

    def test_they_hold_just_where_the_answer_is_not_lesser(self):
        chance = random.Random(21)
        turns = all_of(1) + all_of(2) + all_of(3) + [random_turn(chance, 4) for _ in range(12)]
        for turn in turns:
            many = len(turn)
            for order in some_orders(chance, many, 2):
                clauses = lesser(turn, many + 1, order=order)
                for answer in all_worths(many):
                    right = not is_lesser(answer_by(turn, answer), answer, order_by(many, order))
                    self.assertIs(clauses_hold_somehow(clauses, many, answer, many), right, (turn, order, answer))

    def test_an_order_as_a_tuple_and_by_name_alone(self):
        self.assertEqual(lesser((2, -1), 7, order=(-2, 1)), lesser((2, -1), 7, order=[-2, 1]))
        self.assertEqual(lesser(first=3, turn=(2, 1), order=None), lesser((2, 1), 3))
        self.assertRaises(TypeError, lesser, (2, 1), 3, None)

    def test_no_turn_ahead_of_no_letter(self):
        things = no_numbers() + [
            0, 1, 3, (), (1, 1), (1, -1), (0,), (2,), (1, 3), (True,), (1, True), [1, 2], (1, (2,)), (1, 2.0), ((1,),), Odd(),
            tuple(range(1, 402)),
        ]
        for thing in things:
            if thing == (1,) and type(thing) is tuple:
                continue
            with self.subTest(thing):
                self.assertRaises(NoTurn, lesser, thing, 9)
                self.assertRaises(NoTurn, lesser, thing, 9, order=[])
                self.assertRaises(NoTurn, lesser, thing, 9, order=7)

    def test_what_is_no_order(self):
        for order in NO_ORDERS:
            with self.subTest(order):
                self.assertRaises(NoLetter, lesser, (2, 3, 1), 4, order=order)
        for order in no_lists():
            if order is not None:
                self.assertRaises(NoLetter, lesser, (1,), 4, order=order)

    def test_the_told_list_is_the_askers_own_and_the_same_again(self):
        order = [3, -1, 2]
        told = lesser((2, 3, 1), 4, order=order)
        self.assertEqual(order, [3, -1, 2])
        again = copy.deepcopy(told)
        told.clear()
        order.reverse()
        self.assertEqual(lesser((2, 3, 1), 4, order=[3, -1, 2]), again)


class Broken(unittest.TestCase):
    def test_in_full(self):
        problem = broken(Problem(2, [[1, 2]]), [(2, 1)])
        self.assertEqual(problem.many, 4)
        self.assertEqual(problem.clauses, ((3,), (1, 2), (-1, -3, 4), (-1, 2, -3), (1, -2, -4), (2, -3, 4)))
        problem = broken(Problem(1), [(-1,), (1,), (-1,)], order=[-1])
        self.assertEqual((problem.many, problem.clauses), (4, ((2,), (3,), (4,), (1, -4), (1, -2))))

    def test_helpers_are_numbered_on_turn_by_turn(self):
        chance = random.Random(22)
        for problem, turns in TURNED:
            many = problem.many
            for order in some_orders(chance, many, 2):
                clauses = list(problem.clauses)
                for at, turn in enumerate(turns):
                    clauses += lesser_by(turn, many + 1 + at * many, order_by(many, order))
                told = broken(problem, turns, order=order)
                self.assertIs(type(told), Problem)
                self.assertEqual(told, Problem(many + many * len(turns), clauses))

    def test_its_answers_are_those_left_with_some_worths_of_the_helpers(self):
        for problem, turns in TURNED:
            if problem.many * (len(turns) + 1) <= 9:
                found = answers(broken(problem, turns))
                self.assertEqual(sorted({answer[:problem.many] for answer in found}), left(problem, turns))

    def test_by_any_one_order_every_answer_has_a_turned_one_left_and_by_all_turns_one(self):
        chance = random.Random(23)
        for problem in [problem for problem, _ in TURNED] + [random_problem(chance, many) for many in (3, 3, 4)]:
            turns = fitting(problem)
            for order in some_orders(chance, problem.many, 3):
                for some in (turns, chance.sample(turns, min(3, len(turns)))):
                    own = set(left(problem, some, order=order))
                    group = products(problem.many, some)
                    for answer in all_answers(problem):
                        kind = kind_of(answer, group)
                        self.assertTrue(own & kind)
                        if len(group) == len(some):
                            self.assertEqual(len(own & kind), 1)

    def test_no_turns(self):
        problem = Problem(3, [[1, -2], [3]])
        for turns in ([], ()):
            self.assertEqual(broken(problem, turns), problem)
        self.assertEqual(broken(Problem(400), []), Problem(400))

    def test_at_most_400_truths(self):
        self.assertEqual(broken(Problem(1), [(1,)] * 399).many, 400)
        self.assertRaises(TooMany, broken, Problem(1), [(1,)] * 400)
        self.assertRaises(TooMany, broken, Problem(1), [(1,)] * 10000)
        self.assertRaises(TooMany, broken, Problem(201), [tuple(range(1, 202))])
        self.assertRaises(TooMany, broken, Problem(400), [tuple(range(1, 401))])
        # 133 truths and as many helpers twice, but too many clauses.
        self.assertRaises(TooMany, broken, Problem(133), [tuple(range(1, 134))] * 2)
        self.assertEqual(broken(Problem(100), [tuple(range(1, 101))] * 2).many, 300)

    def test_at_most_400_clauses(self):
        self.assertEqual(len(broken(Problem(1), [(-1,)] * 200).clauses), 400)
        self.assertRaises(TooMany, broken, Problem(1), [(-1,)] * 201)
        self.assertEqual(len(broken(Problem(1, [[1], [-1]]), [(-1,)] * 199).clauses), 400)
        self.assertRaises(TooMany, broken, Problem(1, [[]]), [(-1,)] * 200)

    def test_more_than_twelve_truths(self):
        turn = tuple(range(2, 14)) + (1,)
        told = broken(Problem(13, [list(range(1, 14))]), [turn])
        self.assertEqual(told, Problem(26, [tuple(range(1, 14))] + lesser_by(turn, 14, range(1, 14))))


class Refusals(unittest.TestCase):
    """What broken, left and kept refuse alike, in this order."""

    def assert_refused(self, error, problem, turns, order=None):
        for call in (broken, left, kept):
            with self.assertRaises(error) as caught:
                call(problem, turns, order=order)
        return caught.exception

    def test_no_turn(self):
        problem = Problem(3, [[1]])
        whole = [(1, 2, 3), (1, 3, 2), (-1, 2, 3)]
        for thing in no_numbers() + [0, 1, (1, 2), (1, 2, 3, 4), (1, 2, 2), (1, 2, -2), (1, 2, 0), (1, 2, True), [1, 2, 3], ()]:
            for turns in ([thing], whole + [thing], [thing] + whole, (thing,)):
                self.assert_refused(NoTurn, problem, turns)
                self.assert_refused(NoTurn, problem, turns, order=[])
        self.assert_refused(NoTurn, problem, whole + [(1, 2)] * 1000)

    def test_turns_that_are_no_list(self):
        for thing in no_lists():
            self.assert_refused(NoTurn, Problem(3), thing)

    def test_the_first_that_does_not_fit(self):
        problem = Problem(3, [[1, 2], [3]])
        fit, unfit = [(1, 2, 3), (2, 1, 3)], [(1, 3, 2), (-1, 2, 3), (3, 1, 2)]
        for at in range(5):
            for turn in unfit:
                turns = (fit * 3)[:at] + [turn] + fit + unfit
                for order in (None, [], [1, 2, 3]):
                    self.assertEqual(self.assert_refused(NotThere, problem, turns, order).at, at)
        self.assertEqual(self.assert_refused(NotThere, problem, unfit * 1000).at, 0)

    def test_no_order(self):
        for order in NO_ORDERS:
            self.assert_refused(NoLetter, Problem(3, [[1, 2]]), [(2, 1, 3)], order)
            self.assert_refused(NoLetter, Problem(3, [[1, 2]]), [], order)
        # That there are too many truths or clauses comes last.
        self.assertRaises(NoLetter, broken, Problem(1), [(1,)] * 400, order=[2])

    def test_more_than_twelve_truths_ahead_of_all(self):
        for call in (left, kept):
            for turns in ([], 7, [7], [(2, 1)]):
                for order in (None, 7, []):
                    self.assertRaises(TooMany, call, Problem(13), turns, order=order)
            self.assertEqual(len(call(Problem(12), [])), 4096)

    def test_arguments_by_name(self):
        problem, turns = Problem(2, [[1, 2]]), [(2, 1)]
        for call in (broken, left, kept):
            self.assertEqual(call(turns=turns, order=[2, 1], problem=problem), call(problem, turns, order=[2, 1]))
            self.assertRaises(TypeError, call, problem, turns, None)
            self.assertEqual(call(problem, turns, order=None), call(problem, tuple(turns)))

    def test_what_is_handed_in_stays(self):
        problem, turns, order = Problem(2, [[1, 2]]), [(2, 1), (1, 2)], [2, -1]
        for call in (broken, left, kept):
            call(problem, turns, order=order)
            self.assertEqual((problem, turns, order), (Problem(2, [[1, 2]]), [(2, 1), (1, 2)], [2, -1]))
            told = call(problem, turns, order=order)
            turns.append((1, 2))
            order.reverse()
            self.assertEqual(told, call(problem, [(2, 1), (1, 2)], order=[2, -1]))
            turns.pop()
            order.reverse()


class LeftAndKept(unittest.TestCase):
    @classmethod
    def setUpClass(cls):
        """Each problem with turns and an order."""
        chance = random.Random(24)
        cls.some = []
        problems = TURNED + [(problem, fitting(problem)) for problem, _ in TURNED]
        for many in (3, 4, 4, 4):
            problem = random_problem(chance, many)
            problems.append((problem, chance.sample(fitting(problem), 1)))
        free = Problem(5, [[1, 2, 3, 4, 5], [-1, -2, -3, -4, -5]])
        problems.append((free, [(2, 1, 3, 4, 5), (2, 3, 4, 5, 1), (-1, -2, -3, -4, -5), (1, 2, 3, 5, 4)]))
        for problem, turns in problems:
            for order in some_orders(chance, problem.many, 2):
                cls.some.append((problem, turns, order))

    def test_left(self):
        for problem, turns, order in self.some:
            letters = order_by(problem.many, order)
            told = left(problem, turns, order=order)
            self.assertEqual(told, [answer for answer in all_answers(problem) if is_least(answer, turns, letters)])
            self.assertIs(type(told), list)

    def test_kept(self):
        longest = 0
        for problem, turns, order in self.some:
            letters = order_by(problem.many, order)
            told = kept(problem, turns, order=order)
            own = left(problem, turns, order=order)
            self.assertEqual((type(told), list(told)), (dict, all_answers(problem)))
            for answer, places in told.items():
                self.assertIs(type(places), list)
                for place in places:
                    self.assertIs(type(place), int)
                    self.assertGreaterEqual(place, 0)
                    other = answer_by(turns[place], answer)
                    self.assertTrue(is_lesser(other, answer, letters))
                    answer = other
                self.assertIn(answer, own)
                longest = max(longest, len(places))
        self.assertGreater(longest, 1)

    def test_in_full(self):
        problem = Problem(3, [[1, 2, 3]])
        turns = [(2, 1, 3), (1, 3, 2)]
        self.assertEqual(left(problem, turns), [(0, 0, 1), (0, 1, 1), (1, 1, 1)])
        self.assertEqual(kept(problem, turns), {
            (0, 0, 1): [], (0, 1, 0): [1], (0, 1, 1): [], (1, 0, 0): [0, 1], (1, 0, 1): [0], (1, 1, 0): [1, 0], (1, 1, 1): []})
        self.assertEqual(left(problem, turns, order=[-3, -2, -1]), [(0, 0, 1), (0, 1, 1), (1, 1, 1)])
        self.assertEqual(left(problem, turns, order=[3, 2, 1]), [(1, 0, 0), (1, 1, 0), (1, 1, 1)])
        self.assertEqual(left(problem, turns, order=[-1, -2, -3]), [(1, 0, 0), (1, 1, 0), (1, 1, 1)])

    def test_a_turn_alone_leaves_more_than_its_products(self):
        # The turn leads neither of two answers to a lesser one, but twice done it does.
        problem = Problem(3, [[1, 2, 3], [-1, -2, -3]])
        turn = (3, 1, 2)
        own = left(problem, [turn])
        self.assertGreater(len(own), len(left(problem, products(3, [turn]))))
        self.assertEqual(left(problem, products(3, [turn])), [(0, 0, 1), (0, 1, 1)])

    def test_no_answers_and_no_turns(self):
        self.assertEqual((left(Problem(2, [[]]), [(2, 1)]), kept(Problem(2, [[]]), [(2, 1)])), ([], {}))
        self.assertEqual(left(Problem(2), []), all_worths(2))
        self.assertEqual(kept(Problem(2), []), {answer: [] for answer in all_worths(2)})

    def test_long_ways(self):
        # Turns over all from a truth on, by which one could count down.
        many = 10
        turns = [tuple(-k if k >= first else k for k in range(1, many + 1)) for first in range(many, 0, -1)]
        told = kept(Problem(many), turns)
        self.assertEqual(left(Problem(many), turns), [(0,) * many])
        self.assertEqual(len(told), 2 ** many)
        for answer, places in list(told.items())[::37]:
            for place in places:
                answer = answer_by(turns[place], answer)
            self.assertEqual(answer, (0,) * many)

    def test_of_twelve_truths_and_many_turns(self):
        group = all_turns(Problem(12, [[k, k + 1] for k in range(1, 12, 2)]))
        turns = group.makers()
        problem = Problem(12, [[k, k + 1] for k in range(1, 12, 2)])
        own = left(problem, turns)
        told = kept(problem, turns)
        self.assertEqual(len(told), 3 ** 6)
        self.assertEqual([answer for answer in told if told[answer] == []], own)
        for answer, places in told.items():
            for place in places:
                answer = answer_by(turns[place], answer)
            self.assertIn(answer, own)

    def test_the_told_lists_are_the_askers_own(self):
        problem, turns = Problem(3, [[1, 2, 3]]), [(2, 1, 3), (1, 3, 2)]
        own, told = left(problem, turns), kept(problem, turns)
        for places in told.values():
            places.append(9)
        told.clear()
        own.clear()
        self.assertEqual(left(problem, turns), [(0, 0, 1), (0, 1, 1), (1, 1, 1)])
        again = kept(problem, turns)
        self.assertEqual(again[(1, 0, 0)], [0, 1])
        again[(0, 0, 1)].append(5)
        self.assertEqual([again[answer] for answer in ((0, 1, 1), (1, 1, 1))], [[], []])


if __name__ == "__main__":
    unittest.main()
