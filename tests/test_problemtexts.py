"""problem_text and read_problem."""

import unittest

from things import Odd, assert_no_clause, assert_no_text, unlike_clauses

from turnless.errors import NoProblem, TooMany
from turnless.problems import Problem
from turnless.problemtexts import problem_text, read_problem

HEAD = "truths 3\n"


def text_of(many, clauses):
    return f"truths {many}\n" + "".join(" ".join(map(str, clause)) + "\n" for clause in clauses)


class ProblemText(unittest.TestCase):
    def test_sign_by_sign(self):
        self.assertEqual(problem_text(Problem(3, [[3, 1, -2]])), "truths 3\n1 -2 3\n")
        self.assertEqual(problem_text(Problem(3, [[-1, 2], [3], [], [1, -2, 3], [-3, -1]])),
                         "truths 3\n-\n3\n-1 -3\n-1 2\n1 -2 3\n")

    def test_no_clauses(self):
        self.assertEqual(problem_text(Problem(1)), "truths 1\n")
        self.assertEqual(problem_text(Problem(400)), "truths 400\n")

    def test_the_empty_clause(self):
        self.assertEqual(problem_text(Problem(2, [()])), "truths 2\n-\n")

    def test_two_and_three_figures(self):
        self.assertEqual(problem_text(Problem(123, [[-123, 10, 99]])), "truths 123\n10 99 -123\n")

    def test_by_name(self):
        self.assertEqual(problem_text(problem=Problem(1, [[1]])), "truths 1\n1\n")


class ReadProblem(unittest.TestCase):
    def test_in_order(self):
        problem = read_problem("truths 3\n-\n3\n-1 -3\n-1 2\n1 -2 3\n")
        self.assertEqual(problem.many, 3)
        self.assertEqual(problem.clauses, ((), (3,), (-1, -3), (-1, 2), (1, -2, 3)))

    def test_no_clauses(self):
        for many in (1, 9, 10, 99, 100, 400):
            with self.subTest(many):
                self.assertEqual(read_problem(f"truths {many}\n"), Problem(many))

    def test_in_any_order_and_twice(self):
        problem = read_problem("truths 3\n3 -2 1\n-\n2 2 -1\n3\n-\n1 -2 3 1\n-1 2\n")
        self.assertEqual(problem, Problem(3, [[], [3], [-1, 2], [1, -2, 3]]))

    def test_what_was_written_is_read_back(self):
        problems = [
            Problem(1), Problem(400), Problem(1, [[1], [-1], []]), Problem(3, [[1, -2], [3]]),
            Problem(400, [[400, -399, 1], [-100], [10, 9]]), Problem(20, unlike_clauses(20, 400)),
            Problem(400, [list(range(1, 401))]),
        ]
        for problem in problems:
            with self.subTest(many=problem.many):
                self.assertEqual(read_problem(problem_text(problem)), problem)

    def test_by_name(self):
        self.assertEqual(read_problem(text="truths 2\n-1\n"), Problem(2, [[-1]]))


class NoForm(unittest.TestCase):
    def test_what_is_no_text(self):
        things = [None, True, 0, 3, b"truths 3\n", ["truths 3\n"], ("truths 3\n",), {}, 1.5, Problem(3), Odd(), str]
        for thing in things:
            with self.subTest(thing):
                assert_no_text(self, 0, read_problem, thing)

    def test_no_row(self):
        assert_no_text(self, 0, read_problem, "")

    def test_the_row_of_truths(self):
        rows = [
            "", " ", "truths", "truths ", "truths  3", " truths 3", "truths 3 ", "truths 3 4", "truths3",
            "truth 3", "Truths 3", "TRUTHS 3", "truths 0", "truths 00", "truths 03", "truths 003", "truths -3",
            "truths -0", "truths +3", "truths 1000", "truths 0400", "truths 3.", "truths 3.0", "truths x",
            "truths 1x", "truths -", "3", "-", "1 -2 3", "truths 1_0", "truths 12 3", "put 1", "truths: 3",
            "truths 3 truths 3", "3 truths",
        ]
        for row in rows:
            with self.subTest(row):
                assert_no_text(self, 0, read_problem, row + "\n")
                assert_no_text(self, 0, read_problem, row + "\n1 2\n")

    def test_a_row_of_letters(self):
        rows = [
            "", " ", "0", "-0", "00", "01", "-01", "001", "1 0", "1 -0", "1 02", "1000", "-1000", "1 1234", "0001",
            " 1", "1 ", "1  2", "- 1", "1 -", "1 - 2", "- -", "-  ", " -", "--", "--1", "1 --2", "1-", "1-2", "+1",
            "1 +2", "1,2", "1, 2", "1;2", "x", "1 x", "a", "1.0", "1 2.", "1_0", "(1)", "[]", "()", "1/2", "~1",
            "truths 3", "truths", "1 truths", "None", "\\1", "1e1", "0x1",
        ]
        for row in rows:
            with self.subTest(row):
                assert_no_text(self, 1, read_problem, HEAD + row + "\n")
                assert_no_text(self, 3, read_problem, HEAD + "1\n-\n" + row + "\n2 3\n")

    def test_the_last_row_without_line_end(self):
        assert_no_text(self, 0, read_problem, "truths 3")
        assert_no_text(self, 1, read_problem, "truths 3\n1 2")
        assert_no_text(self, 1, read_problem, "truths 3\n-")
        assert_no_text(self, 2, read_problem, "truths 3\n1 2\n3")
        assert_no_text(self, 2, read_problem, "truths 3\n1 2\n ")

    def test_an_empty_row(self):
        assert_no_text(self, 0, read_problem, "\n")
        assert_no_text(self, 0, read_problem, "\ntruths 3\n")
        assert_no_text(self, 1, read_problem, "truths 3\n\n")
        assert_no_text(self, 1, read_problem, "truths 3\n\n1\n")
        assert_no_text(self, 2, read_problem, "truths 3\n1\n\n")

    def test_the_first_of_several(self):
        assert_no_text(self, 0, read_problem, "truths 03\n0\nx")
        assert_no_text(self, 1, read_problem, "truths 3\n0\nx\n1")
        assert_no_text(self, 2, read_problem, "truths 3\n1\nx\n1")
        assert_no_text(self, 0, read_problem, "truths 0")

    def test_one_to_three_figures(self):
        self.assertEqual(read_problem("truths 400\n1 -22 333\n"), Problem(400, [[1, -22, 333]]))
        self.assertEqual(read_problem("truths 10\n10 10\n"), Problem(10, [[10]]))


class RefusedAsProblem(unittest.TestCase):
    def test_no_problem(self):
        for many in (401, 500, 999):
            with self.subTest(many):
                self.assertRaises(NoProblem, read_problem, f"truths {many}\n")
                self.assertRaises(NoProblem, read_problem, f"truths {many}\n1 -1\n")

    def test_no_clause(self):
        assert_no_clause(self, 0, read_problem, HEAD + "4\n")
        assert_no_clause(self, 0, read_problem, HEAD + "-999\n")
        assert_no_clause(self, 0, read_problem, HEAD + "1 -1\n")
        assert_no_clause(self, 2, read_problem, HEAD + "1\n-\n2 3 -2\n4\n")
        assert_no_clause(self, 1, read_problem, HEAD + "3\n-4\n1 -1\n")
        assert_no_clause(self, 1, read_problem, "truths 400\n400\n401\n")

    def test_too_many(self):
        self.assertEqual(len(read_problem(text_of(20, unlike_clauses(20, 400))).clauses), 400)
        self.assertRaises(TooMany, read_problem, text_of(20, unlike_clauses(20, 401)))
        twice = unlike_clauses(20, 400) + [clause[::-1] for clause in unlike_clauses(20, 400)]
        self.assertEqual(len(read_problem(text_of(20, twice)).clauses), 400)

    def test_no_clause_ahead_of_too_many(self):
        assert_no_clause(self, 401, read_problem, text_of(20, unlike_clauses(20, 401) + [[21]]))

    def test_no_text_ahead_of_these(self):
        assert_no_text(self, 1, read_problem, "truths 999\n0\n")
        assert_no_text(self, 2, read_problem, HEAD + "1 -1\n01\n")
        assert_no_text(self, 2, read_problem, HEAD + "4\n1")
        assert_no_text(self, 402, read_problem, text_of(20, unlike_clauses(20, 401)) + "x\n")


if __name__ == "__main__":
    unittest.main()
