"""Problem: many, clauses, ==, and what it refuses, in which order."""

import unittest

from things import assert_no_clause, no_lists, no_numbers, unlike_clauses

from turnless.errors import NoProblem, TooMany
from turnless.problems import MOST, Problem


class Many(unittest.TestCase):
    def test_most(self):
        self.assertEqual(MOST, 400)

    def test_from_one_to_most(self):
        for many in (1, 2, 12, 13, 399, 400):
            with self.subTest(many):
                self.assertEqual(Problem(many).many, many)

    def test_other_numbers(self):
        for many in (0, -1, -400, 401, 402, 10 ** 9, -10 ** 9):
            with self.subTest(many):
                self.assertRaises(NoProblem, Problem, many)

    def test_of_anything(self):
        for many in no_numbers():
            with self.subTest(many):
                self.assertRaises(NoProblem, Problem, many)

    def test_by_name(self):
        problem = Problem(clauses=[[2]], many=2)
        self.assertEqual((problem.many, problem.clauses), (2, ((2,),)))


class Clauses(unittest.TestCase):
    def test_none(self):
        self.assertEqual(Problem(3).clauses, ())
        self.assertEqual(Problem(3, []).clauses, ())
        self.assertEqual(Problem(3, ()).clauses, ())

    def test_letters_rise_by_truths(self):
        self.assertEqual(Problem(4, [[3, -1, 4, -2]]).clauses, ((-1, -2, 3, 4),))
        self.assertEqual(Problem(4, [[-4, 1, -2]]).clauses, ((1, -2, -4),))

    def test_letters_twice(self):
        self.assertEqual(Problem(3, [[2, 1, 2, 1, 2]]).clauses, ((1, 2),))
        self.assertEqual(Problem(3, [[-3, -3]]).clauses, ((-3,),))

    def test_clauses_twice(self):
        self.assertEqual(Problem(3, [[1, 2], [3], (2, 1), [1, 2, 1], (3,)]).clauses, ((3,), (1, 2)))

    def test_clauses_shorter_first_then_as_tuples(self):
        told = [[1, 2, 3], [2, 3], [1, 3], [-1, 3], [-1, -3], [1, -2], [3], [-3], [1], [], [-1, -2, -3]]
        self.assertEqual(Problem(3, told).clauses, (
            (), (-3,), (1,), (3,), (-1, -3), (-1, 3), (1, -2), (1, 3), (2, 3), (-1, -2, -3), (1, 2, 3),
        ))

    def test_numbers_rise_as_numbers(self):
        told = [[10], [9], [-10], [-9], [100], [2, 10], [2, 9]]
        self.assertEqual(Problem(100, told).clauses, ((-10,), (-9,), (9,), (10,), (100,), (2, 9), (2, 10)))

    def test_lists_or_tuples(self):
        wanted = Problem(3, [[1, -2], [3]]).clauses
        for told in ([(1, -2), (3,)], ((1, -2), (3,)), ([1, -2], [3]), [[1, -2], (3,)]):
            with self.subTest(told):
                self.assertEqual(Problem(3, told).clauses, wanted)

    def test_the_empty_clause(self):
        self.assertEqual(Problem(1, [()]).clauses, ((),))
        self.assertEqual(Problem(1, [[], ()]).clauses, ((),))

    def test_tuples_all_through(self):
        problem = Problem(3, [[2, 1], [3]])
        self.assertIs(type(problem.clauses), tuple)
        self.assertEqual([type(clause) for clause in problem.clauses], [tuple, tuple])

    def test_letters_of_all_truths(self):
        self.assertEqual(Problem(400, [[400, -1], [-400]]).clauses, ((-400,), (-1, 400)))
        self.assertEqual(Problem(1, [[1], [-1]]).clauses, ((-1,), (1,)))

    def test_a_clause_of_all_truths(self):
        self.assertEqual(Problem(400, [list(range(400, 0, -1))]).clauses, (tuple(range(1, 401)),))


class WhatIsHandedIn(unittest.TestCase):
    def test_stays_as_it_is(self):
        told = [[3, 1, 3], [2], (2, -1), [2]]
        Problem(3, told)
        self.assertEqual(told, [[3, 1, 3], [2], (2, -1), [2]])

    def test_stays_as_it_is_where_it_is_refused(self):
        told = [[3, 1, 3], [2], [4], [1, -1]]
        assert_no_clause(self, 2, Problem, 3, told)
        self.assertEqual(told, [[3, 1, 3], [2], [4], [1, -1]])

    def test_changed_behind_the_call(self):
        told = [[1, 2], [3]]
        problem = Problem(3, told)
        told[0].append(-3)
        told[1][0] = 1
        told.append([2])
        self.assertEqual(problem.clauses, ((3,), (1, 2)))
        self.assertEqual(problem, Problem(3, [[1, 2], [3]]))

    def test_a_tuple_of_lists_changed_behind_the_call(self):
        clause = [1, 2]
        problem = Problem(3, (clause,))
        clause.clear()
        self.assertEqual(problem.clauses, ((1, 2),))


class Equal(unittest.TestCase):
    def test_in_other_orders_and_twice(self):
        one = Problem(3, [[1, -2], [3], []])
        other = Problem(3, [(3, 3), (), (-2, 1), [1, -2, 1], [3]])
        self.assertTrue(one == other)
        self.assertFalse(one != other)

    def test_with_itself(self):
        problem = Problem(2, [[1]])
        self.assertTrue(problem == problem)

    def test_of_no_clauses(self):
        self.assertTrue(Problem(7) == Problem(7, []))

    def test_a_clause_more_or_less(self):
        one = Problem(3, [[1, 2], [3]])
        for told in ([], [[1, 2]], [[3]], [[1, 2], [3], [2]], [[1, 2], [3], []], [[1, 2], [-3]]):
            with self.subTest(told):
                self.assertFalse(one == Problem(3, told))
                self.assertFalse(Problem(3, told) == one)
                self.assertTrue(one != Problem(3, told))

    def test_another_many(self):
        self.assertFalse(Problem(3, [[1]]) == Problem(4, [[1]]))
        self.assertTrue(Problem(3) != Problem(4))

    def test_what_is_no_problem(self):
        class Like:
            many = 3
            clauses = ((1,),)

        problem = Problem(3, [[1]])
        others = no_numbers() + [3, ((1,),), (3, ((1,),)), [[1]], "truths 3\n1\n", Like(), Problem]
        for other in others:
            with self.subTest(other):
                self.assertIs(problem == other, False)
                self.assertIs(problem != other, True)


class RefusedClauses(unittest.TestCase):
    def test_clauses_is_no_list(self):
        for told in no_lists():
            with self.subTest(told):
                assert_no_clause(self, 0, Problem, 3, told)

    def test_a_clause_is_no_list(self):
        for thing in no_lists():
            with self.subTest(thing):
                assert_no_clause(self, 0, Problem, 3, [thing])
                assert_no_clause(self, 2, Problem, 3, [[1], [2, 3], thing, [1]])

    def test_a_letter_is_no_number(self):
        for thing in no_numbers():
            with self.subTest(thing):
                assert_no_clause(self, 0, Problem, 3, [[thing]])
                assert_no_clause(self, 1, Problem, 3, [[1], [1, thing, 2]])
                assert_no_clause(self, 1, Problem, 3, [[1], (2, thing)])

    def test_a_letter_of_no_truth(self):
        for letter in (0, 4, -4, 400, 10 ** 9, -10 ** 9):
            with self.subTest(letter):
                assert_no_clause(self, 0, Problem, 3, [[letter]])
                assert_no_clause(self, 2, Problem, 3, [[1], [-2], [3, letter]])
        assert_no_clause(self, 0, Problem, 400, [[401]])
        assert_no_clause(self, 0, Problem, 400, [[-401]])

    def test_k_beside_its_other_sign(self):
        for clause in ([1, -1], [-1, 1], [2, 1, 3, -2], (-3, -3, 1, 3), [1, 1, -1]):
            with self.subTest(clause):
                assert_no_clause(self, 0, Problem, 3, [clause])
                assert_no_clause(self, 1, Problem, 3, [[], clause])

    def test_a_list_in_itself(self):
        told = []
        told.append(told)
        assert_no_clause(self, 0, Problem, 3, told)

    def test_the_first_of_several(self):
        assert_no_clause(self, 1, Problem, 3, [[1], [1, -1], None, [4]])
        assert_no_clause(self, 1, Problem, 3, [[1], None, [1, -1], [4]])
        assert_no_clause(self, 0, Problem, 3, [[4], [1, -1], None])
        assert_no_clause(self, 3, Problem, 3, [[1], [1], [1], [True]])


class Bounds(unittest.TestCase):
    def test_400_unlike_clauses(self):
        told = unlike_clauses(20, 400)
        self.assertEqual(len(Problem(20, told).clauses), 400)

    def test_401_unlike_clauses(self):
        self.assertRaises(TooMany, Problem, 20, unlike_clauses(20, 401))
        self.assertRaises(TooMany, Problem, 20, unlike_clauses(20, 400) + [()])

    def test_each_told_twice(self):
        told = unlike_clauses(20, 400)
        turned = [clause[::-1] for clause in told]
        self.assertEqual(len(Problem(20, told + turned).clauses), 400)
        self.assertEqual(len(Problem(20, turned + told + told).clauses), 400)
        self.assertRaises(TooMany, Problem, 20, told + turned + [[1]])


class WhichRefusalComes(unittest.TestCase):
    def test_no_problem_ahead_of_all(self):
        for clauses in (None, [None], [[0]], [[1, -1]], unlike_clauses(20, 401)):
            for many in (0, 401, True, None):
                with self.subTest(many):
                    self.assertRaises(NoProblem, Problem, many, clauses)

    def test_no_clause_ahead_of_too_many(self):
        told = unlike_clauses(20, 401)
        assert_no_clause(self, 401, Problem, 20, told + [[21]])
        assert_no_clause(self, 401, Problem, 20, told + [None])
        assert_no_clause(self, 0, Problem, 20, [[1, -1]] + told)


if __name__ == "__main__":
    unittest.main()
