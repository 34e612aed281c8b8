"""Turns: is_turn, still, what letters, clauses, parts and answers go to, then, back, and fits."""

import itertools
import random
import unittest

from things import Odd, no_numbers
from turning import WRONG_MANY, all_clauses, all_of, behind, clause_by, goes, letters_of, random_problem, random_turn

from turnless.errors import NoTurn
from turnless.problems import Problem
from turnless.turns import back, fits, is_turn, of_answer, of_clause, of_letter, of_part, order, rounds, still, then

STILL = tuple(range(1, 401))
AGAINST = tuple(range(-1, -401, -1))
BACKWARDS = tuple(range(400, 0, -1))


# Of no number of truths a turn.
NO_TURNS = [thing for thing in no_numbers() if type(thing) is not tuple] + [
    0, 1, -1, 3, (), (0,), (2,), (-2,), (True,), (1.0,), ("1",), (None,), ((1,),), ([1],), (Odd(),),
    (1, 1), (-1, -1), (1, -1), (-2, 2), (1, 3), (0, 1), (2, 2, 1), (1, 2, -1), (1, 2, 4), (True, 2), (2, True),
    [1], [1, 2], [2, -1, 3], "12", range(1, 3), {1: 2, 2: 1}, STILL + (401,), AGAINST + (401,), STILL[:-1] + (-399,),
]


class IsTurn(unittest.TestCase):
    def test_all_tuples_of_few_letters(self):
        for many in (1, 2, 3):
            right = set(all_of(many))
            self.assertEqual(len(right), [2, 8, 48][many - 1])
            for length in range(many + 2):
                for thing in itertools.product(range(-many - 1, many + 2), repeat=length):
                    self.assertIs(is_turn(thing, many), thing in right, (thing, many))

    def test_from_1_to_400_truths(self):
        self.assertTrue(is_turn((1,), 1))
        self.assertTrue(is_turn((-1,), 1))
        for turn in (STILL, AGAINST, BACKWARDS, STILL[1:] + (-1,)):
            self.assertIs(is_turn(turn, 400), True)
            self.assertIs(is_turn(turn, 399), False)
        self.assertIs(is_turn((), 0), False)
        self.assertIs(is_turn(tuple(range(1, 402)), 401), False)

    def test_wrong_letters(self):
        for thing in ((1, 2, 2), (1, 2, -2), (3, 2, -3), (1, 2, 0), (1, 2, 4), (1, 2, -4), (1, 2, 10 ** 9)):
            self.assertIs(is_turn(thing, 3), False, thing)
        self.assertIs(is_turn(STILL[:-1] + (-1,), 400), False)
        self.assertIs(is_turn(STILL[:-1] + (0,), 400), False)
        self.assertIs(is_turn(STILL[:-1] + (401,), 400), False)

    def test_one_letter_more_or_less(self):
        for thing in ((1, 2), (2, -1), (1, 2, 3, 4), (1, 2, 3, 3), (1, 2, 3, 0), ()):
            self.assertIs(is_turn(thing, 3), False, thing)

    def test_letters_of_anything(self):
        for thing in no_numbers():
            for other in ((thing,), (thing, 2), (2, thing)):
                self.assertIs(is_turn(other, len(other)), False, other)

    def test_of_anything(self):
        for thing in NO_TURNS:
            for many in (1, 2, 3, 400, 401):
                self.assertIs(is_turn(thing, many), False, thing)

    def test_many_of_anything(self):
        for many in no_numbers() + WRONG_MANY:
            for thing in ((1,), (1, 2), (), None, tuple(range(1, 402))):
                self.assertIs(is_turn(thing, many), False, (thing, many))


class Still(unittest.TestCase):
    def test_it_leaves_all(self):
        self.assertEqual(still(1), (1,))
        self.assertEqual(still(3), (1, 2, 3))
        self.assertEqual(still(400), STILL)
        for letter in letters_of(5):
            self.assertEqual(of_letter(still(5), letter), letter)

    def test_it_is_a_tuple(self):
        self.assertIs(type(still(2)), tuple)


class Goes(unittest.TestCase):
    def test_letters(self):
        turn = (3, -1, 2)
        self.assertEqual([of_letter(turn, k) for k in (1, 2, 3)], [3, -1, 2])
        self.assertEqual([of_letter(turn, k) for k in (-1, -2, -3)], [-3, 1, -2])
        for turn in all_of(3):
            for letter in letters_of(3):
                self.assertEqual(of_letter(turn, letter), goes(turn, letter))
        self.assertEqual([of_letter(STILL[1:] + (-1,), k) for k in (1, 399, 400, -400)], [2, 400, -1, 1])

    def test_clauses_rise_by_truths_again(self):
        self.assertEqual(of_clause((3, -1, 2), (1, 2, -3)), (-1, -2, 3))
        self.assertEqual(of_clause((-3, -2, -1), (1, 2, -3)), (1, -2, -3))
        self.assertEqual(of_clause((2, 3, 1), (-3,)), (-1,))
        self.assertEqual(of_clause((2, 3, 1), ()), ())
        self.assertEqual(of_clause(BACKWARDS, (1, -9, 10)), (391, -392, 400))

    def test_all_clauses_by_all_turns(self):
        for turn in all_of(3):
            for clause in all_clauses(3):
                told = of_clause(turn, clause)
                self.assertEqual(told, clause_by(turn, clause))
                self.assertIs(type(told), tuple)

    def test_parts_keep_their_order(self):
        self.assertEqual(of_part((3, -1, 2), (1, 2, -3)), (3, -1, -2))
        self.assertEqual(of_part((3, -1, 2), (-3, 2, 1)), (-2, -1, 3))
        self.assertEqual(of_part((3, -1, 2), (2,)), (-1,))
        self.assertEqual(of_part((3, -1, 2), ()), ())
        self.assertIs(type(of_part((2, 1), (1,))), tuple)

    def test_answers(self):
        self.assertEqual(of_answer((3, -1, 2), (1, 1, 0)), (0, 0, 1))
        self.assertEqual(of_answer((2, 3, 1), (1, 0, 0)), (0, 1, 0))
        self.assertEqual(of_answer((-1,), (0,)), (1,))
        self.assertEqual(of_answer(AGAINST, (1,) * 399 + (0,)), (0,) * 399 + (1,))

    def test_all_answers_by_all_turns(self):
        for turn in all_of(3):
            for answer in itertools.product((0, 1), repeat=3):
                told = of_answer(turn, answer)
                for letter in letters_of(3):
                    goal = goes(turn, letter)
                    holds = answer[abs(letter) - 1] == (1 if letter > 0 else 0)
                    self.assertEqual(told[abs(goal) - 1] == (1 if goal > 0 else 0), holds)

    def test_clauses_hold_with_their_answers(self):
        clause = (1, -2, 4)
        for turn in all_of(4):
            for answer in ((0, 1, 1, 0), (1, 1, 0, 0), (0, 1, 0, 1)):
                holds = any(answer[abs(k) - 1] == (k > 0) for k in clause)
                told = of_answer(turn, answer)
                self.assertEqual(any(told[abs(k) - 1] == (k > 0) for k in of_clause(turn, clause)), holds)

    def test_what_is_handed_in_stays(self):
        part = [2, -1]
        self.assertEqual(of_part((2, -1), part), (-1, -2))
        self.assertEqual(part, [2, -1])


class ThenAndBack(unittest.TestCase):
    def test_first_one_then_other(self):
        self.assertEqual(then((2, 3, 1), (-1, 2, 3)), (2, 3, -1))
        self.assertEqual(then((-1, 2, 3), (2, 3, 1)), (-2, 3, 1))
        for one, other in itertools.product(all_of(2), repeat=2):
            self.assertEqual(then(one, other), behind(one, other))
        chance = random.Random(1)
        for many in (3, 5, 12, 400):
            one, other = random_turn(chance, many), random_turn(chance, many)
            told = then(one, other)
            self.assertEqual(told, behind(one, other))
            self.assertIs(type(told), tuple)
            self.assertEqual(of_letter(told, -many), of_letter(other, of_letter(one, -many)))

    def test_answers_one_behind_the_other(self):
        for one, other in itertools.product(all_of(2), repeat=2):
            for answer in itertools.product((0, 1), repeat=2):
                self.assertEqual(of_answer(then(one, other), answer), of_answer(other, of_answer(one, answer)))

    def test_back_of_each_side(self):
        self.assertEqual(back((2, 3, -1)), (-3, 1, 2))
        self.assertEqual(back((2, -1)), (-2, 1))
        chance = random.Random(2)
        for turn in all_of(3) + [random_turn(chance, many) for many in (1, 7, 12, 399, 400)]:
            first = still(len(turn))
            self.assertEqual(then(turn, back(turn)), first)
            self.assertEqual(then(back(turn), turn), first)
            self.assertEqual(back(back(turn)), turn)
            self.assertIs(type(back(turn)), tuple)


class RefusedTurns(unittest.TestCase):
    def test_of_anything(self):
        self.assertGreater(len(NO_TURNS), 50)
        for thing in NO_TURNS:
            for call, told in ((of_letter, 1), (of_clause, (1,)), (of_clause, ()), (of_part, (1,)), (of_part, ())):
                with self.subTest(call.__name__, thing=thing):
                    self.assertRaises(NoTurn, call, thing, told)
            for answer in ((0,), (0, 1), (0, 1, 1), (1,) * 401):
                with self.subTest("of_answer", thing=thing):
                    self.assertRaises(NoTurn, of_answer, thing, answer)
            for call in (back, order, rounds):
                with self.subTest(call.__name__, thing=thing):
                    self.assertRaises(NoTurn, call, thing)

    def test_then_of_anything(self):
        for thing in NO_TURNS:
            for turn in ((1,), (-1,), (2, 1), (1, 3, -2)):
                with self.subTest(thing):
                    self.assertRaises(NoTurn, then, thing, turn)
                    self.assertRaises(NoTurn, then, turn, thing)
            with self.subTest(thing):
                self.assertRaises(NoTurn, then, thing, thing)

    def test_unlike_many_truths(self):
        for one, other in (((1,), (2, 1)), ((2, 1), (1,)), ((1, 2, 3), (1, 2)), (STILL, STILL[:-1]), (STILL[:-1], STILL)):
            self.assertRaises(NoTurn, then, one, other)
        for turn, answer in (((1,), (0, 1)), ((2, 1), (0,)), ((2, 1), (0, 1, 1)), ((2, 1), ()), (STILL, (0,) * 399)):
            self.assertRaises(NoTurn, of_answer, turn, answer)


class Fits(unittest.TestCase):
    def assert_fits_just(self, problem):
        own = set(problem.clauses)
        for turn in all_of(problem.many):
            right = all(clause_by(turn, clause) in own for clause in own)
            self.assertIs(fits(problem, turn), right, (problem.clauses, turn))

    def test_just_the_turns_that_lead_each_clause_to_a_clause(self):
        for many, clauses in (
            (1, []), (1, [[]]), (1, [[1]]), (1, [[1], [-1]]), (2, []), (2, [[1, -2]]), (2, [[1, 2], [-1, -2]]),
            (3, [[1, 2], [2, 3], [1, 3]]), (3, [[1, 2, 3]]), (3, [[], [1], [2], [-3]]), (3, [[1, -2], [2, -3], [3, -1]]),
            (4, [[1, 2], [3, 4]]), (4, [[1, 2], [2, 3], [3, 4], [4, 1]]), (4, [[1, 2, 3], [4]]),
        ):
            self.assert_fits_just(Problem(many, clauses))
        chance = random.Random(3)
        for many in (1, 2, 3, 3, 3):
            self.assert_fits_just(random_problem(chance, many))

    def test_of_so_many_truths(self):
        problem = Problem(2, [[1, 2]])
        self.assertIs(fits(problem, (2, 1)), True)
        for turn in ((1,), (1, 2, 3), (2, 1, 3), tuple(range(1, 401))):
            self.assertIs(fits(problem, turn), False)

    def test_of_anything(self):
        for many in (1, 2, 3):
            for thing in NO_TURNS + [[2, 1], [1, 2, 3], ((2, 1),)]:
                self.assertIs(fits(Problem(many), thing), False, thing)

    def test_of_400_truths(self):
        problem = Problem(400, [[k, -k - 1] for k in range(1, 400)])
        self.assertTrue(fits(problem, STILL))
        self.assertTrue(fits(problem, tuple(-k for k in BACKWARDS)))
        self.assertFalse(fits(problem, BACKWARDS))
        self.assertFalse(fits(problem, AGAINST))
        self.assertFalse(fits(problem, (2, 1) + STILL[2:]))


if __name__ == "__main__":
    unittest.main()
