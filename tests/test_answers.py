"""is_answer and answers, against answers found by trying all tuples of 0 and 1."""

import itertools
import unittest

from things import Odd, no_numbers

from turnless.errors import TooMany
from turnless.problems import Problem, answers, is_answer

PROBLEMS = [
    (1, []), (1, [[1]]), (1, [[-1]]), (1, [[1], [-1]]), (1, [[]]),
    (2, []), (2, [[1, 2]]), (2, [[1, -2], [-1, 2]]), (2, [[1, 2], [1, -2], [-1, 2], [-1, -2]]),
    (3, []), (3, [[]]), (3, [[], [1, 2]]), (3, [[2]]), (3, [[-3], [1, 2, 3]]), (3, [[1, 2], [2, 3], [1, 3]]),
    (4, [[1, 2, 3, 4], [-1, -2, -3, -4]]), (4, [[-1, 2], [-2, 3], [-3, 4]]),
    (5, [[1, 2], [3, 4], [-1, -3], [-2, -4], [5, -1], [-5, -4]]),
    (6, [[4, 5, 6], [-4, -5], [-5, -6], [-4, -6]]),
    (6, [[5, 6], [5, -6], [-5, 6], [-5, -6]]),
    (8, [[k, k + 1] for k in range(1, 8)] + [[-1, -8]]),
]


def holding(many, clauses):
    """All answers, found by the words of the document, one tuple by one."""
    found = []
    for worths in itertools.product((0, 1), repeat=many):
        so = [k if worth else -k for k, worth in enumerate(worths, 1)]
        if all(any(letter in so for letter in clause) for clause in clauses):
            found.append(worths)
    return found


class IsAnswer(unittest.TestCase):
    def test_all_tuples_of_small_problems(self):
        for many, clauses in PROBLEMS:
            problem, right = Problem(many, clauses), holding(many, clauses)
            for worths in itertools.product((0, 1), repeat=many):
                with self.subTest(many=many, clauses=clauses, worths=worths):
                    self.assertIs(is_answer(problem, worths), worths in right)

    def test_a_letter_holds_by_its_own_truth(self):
        self.assertTrue(is_answer(Problem(3, [[-2]]), (1, 0, 1)))
        self.assertFalse(is_answer(Problem(3, [[-2]]), (0, 1, 0)))
        self.assertTrue(is_answer(Problem(3, [[3]]), (0, 0, 1)))
        self.assertFalse(is_answer(Problem(3, [[3]]), (1, 1, 0)))

    def test_the_empty_clause_never_holds(self):
        self.assertFalse(is_answer(Problem(1, [[]]), (0,)))
        self.assertFalse(is_answer(Problem(1, [[]]), (1,)))

    def test_another_length(self):
        problem = Problem(3)
        for thing in ((), (0,), (0, 1), (0, 1, 0, 1), (1,) * 400):
            with self.subTest(thing):
                self.assertIs(is_answer(problem, thing), False)

    def test_other_worths(self):
        problem = Problem(3, [[1]])
        for worth in no_numbers() + [2, -1, -2, 10 ** 9, "0", (0,), [1]]:
            with self.subTest(worth):
                self.assertIs(is_answer(problem, (1, 0, worth)), False)
                self.assertIs(is_answer(problem, (worth, 0, 1)), False)

    def test_what_is_no_tuple(self):
        things = no_numbers() + [0, 1, 3, "101", b"101", [1, 0, 1], {0: 1, 1: 0, 2: 1}, Odd()]
        for thing in things:
            with self.subTest(thing):
                self.assertIs(is_answer(Problem(3), thing), False)

    def test_many_truths(self):
        problem = Problem(400, [[k] for k in range(1, 401)])
        self.assertIs(is_answer(problem, (1,) * 400), True)
        self.assertIs(is_answer(problem, (1,) * 399 + (0,)), False)

    def test_by_name(self):
        self.assertIs(is_answer(thing=(1,), problem=Problem(1, [[1]])), True)


class Answers(unittest.TestCase):
    def test_all_and_only_those_rising(self):
        for many, clauses in PROBLEMS:
            with self.subTest(many=many, clauses=clauses):
                self.assertEqual(answers(Problem(many, clauses)), holding(many, clauses))

    def test_problems_of_three_truths(self):
        letters = [-3, -2, -1, 1, 2, 3]
        pairs = [pair for pair in itertools.combinations(letters, 2) if pair[0] != -pair[1]]
        for clauses in itertools.combinations(pairs, 3):
            self.assertEqual(answers(Problem(3, clauses)), holding(3, clauses))

    def test_problems_of_four_truths(self):
        signs = list(itertools.product((1, -1), repeat=3))
        triples = [tuple(k * sign for k, sign in zip(truths, row))
                   for truths in itertools.combinations((1, 2, 3, 4), 3) for row in signs]
        for step in (3, 5, 7, 9, 11):
            for first in range(step):
                clauses = triples[first::step]
                self.assertEqual(answers(Problem(4, clauses)), holding(4, clauses))

    def test_rising_as_tuples(self):
        self.assertEqual(answers(Problem(2)), [(0, 0), (0, 1), (1, 0), (1, 1)])
        self.assertEqual(answers(Problem(3, [[1, 2], [2, 3]])),
                         [(0, 1, 0), (0, 1, 1), (1, 0, 1), (1, 1, 0), (1, 1, 1)])

    def test_a_list_of_tuples_of_numbers(self):
        told = answers(Problem(2, [[1, 2]]))
        self.assertIs(type(told), list)
        self.assertTrue(all(type(answer) is tuple for answer in told))
        self.assertTrue(all(type(worth) is int for answer in told for worth in answer))

    def test_each_is_an_answer(self):
        problem = Problem(6, [[1, -4], [2, 3, 5], [-6, 1]])
        self.assertTrue(all(is_answer(problem, answer) for answer in answers(problem)))

    def test_most_left_out_is_twelve(self):
        self.assertEqual(len(answers(Problem(12))), 2 ** 12)
        self.assertRaises(TooMany, answers, Problem(13))
        self.assertRaises(TooMany, answers, Problem(400, [[]]))

    def test_most_told(self):
        self.assertRaises(TooMany, answers, Problem(3), most=2)
        self.assertRaises(TooMany, answers, Problem(1), most=0)
        self.assertRaises(TooMany, answers, Problem(3, [[]]), most=2)
        self.assertEqual(len(answers(Problem(3), most=3)), 8)
        self.assertEqual(len(answers(Problem(3), most=400)), 8)
        self.assertRaises(TooMany, answers, Problem(14), most=13)

    def test_many_truths_where_most_allows_them(self):
        self.assertEqual(len(answers(Problem(13), most=13)), 2 ** 13)
        self.assertEqual(answers(Problem(400, [[k] for k in range(1, 401)]), most=400), [(1,) * 400])
        self.assertEqual(answers(Problem(400, [[-k] for k in range(1, 401)]), most=400), [(0,) * 400])

    def test_many_truths_that_all_hang_on_the_last(self):
        ties = [[-k, 200] for k in range(1, 200)] + [[k, -200] for k in range(1, 200)]
        self.assertEqual(answers(Problem(200, ties), most=200), [(0,) * 200, (1,) * 200])

    def test_many_truths_and_no_answer(self):
        last = [[399, 400], [399, -400], [-399, 400], [-399, -400]]
        self.assertEqual(answers(Problem(400, last), most=400), [])
        self.assertEqual(answers(Problem(400, [[]]), most=400), [])

    def test_most_goes_by_name_alone(self):
        self.assertRaises(TypeError, answers, Problem(3), 12)
        self.assertEqual(answers(most=1, problem=Problem(1)), [(0,), (1,)])

    def test_the_told_list_is_the_askers_own(self):
        problem = Problem(2, [[1, 2]])
        told = answers(problem)
        told.reverse()
        told.append("more")
        self.assertEqual(answers(problem), [(0, 1), (1, 0), (1, 1)])
        told.clear()
        self.assertEqual(answers(problem), [(0, 1), (1, 0), (1, 1)])

    def test_the_problem_stays_as_it_is(self):
        problem = Problem(3, [[1, 2], [-3]])
        answers(problem)
        is_answer(problem, (1, 1, 0))
        self.assertRaises(TooMany, answers, problem, most=2)
        self.assertEqual((problem.many, problem.clauses), (3, ((-3,), (1, 2))))


if __name__ == "__main__":
    unittest.main()
