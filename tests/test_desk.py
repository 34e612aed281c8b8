"""answers_of: each of the rows, what is refused, and what is no row."""

import random
import unittest

from plainly import kinds_by
from things import assert_no_text, no_lists, no_numbers
from turning import fitting

from turnless.bench import Bench
from turnless.desk import answers_of
from turnless.errors import TurnError
from turnless.finding import all_turns, formed
from turnless.kinds import least
from turnless.problems import answers, is_answer
from turnless.turns import fits

# Rows that are none behind a first bench.
NO_ROWS = [
    "", " ", "-", "ok", "no row", "truths", "truths ", "truths 0", "truths 03", "truths -3", "truths 1000", "truths 3 ", "truths  3", "truths 3 3", "truths a",
    "Truths 3", "truth 3", " truths 3", "put", "put ", "put  1", "put 1 ", "put 1  2", " put 1", "put 0", "put 01", "put -0", "put 1000", "put -1000", "put 1 -",
    "put - 1", "put --1", "put --", "put +1", "put a", "put 1,2", "Put 1", "puts 1", "drop", "drop ", "drop 0", "drop 1 0", "drop - -", "drop 1-", "hold", "hold ",
    "hold -", "hold 0", "hold 1 2", "hold 01", "hold 1000", "hold  1", "hold 1 ", "hold --1", "hold a", "back ", "back 1", " back", "Back", "backs", "again ",
    "again 1", "again again", "group ", "group 1", "groups", "orbits ", "orbits 1", "orbit", "fits", "fits ", "fits -", "fits 0", "fits 1 0", "fits 1  2",
    "fits 1 2 ", "fits 01", "fits 1000", "fits a", "fit 1 2 3", "kinds ", "kinds 1", "kind", "count ", "count 1", "counts", "solve ", "solve plain", "solved",
    "least", "least ", "least  110", "least 110 ", "least 1 1 0", "least 112", "least 1-0", "least -", "least a", "leastt 110", "form ", "form 1", "formed",
    "each", "log", "problem", "twin", "refused", "yes", "no", "put 1\r", "group\t",
]


def told_by(*rows):
    """What is told of the rows, row by row."""
    told = answers_of("".join(row + "\n" for row in rows))
    assert told == "" or told.endswith("\n")
    return told.split("\n")[:-1]


class Case(unittest.TestCase):
    def assert_told(self, *pairs):
        """Pairs of a row and what is told of it."""
        self.assertEqual(told_by(*[row for row, _ in pairs]), [told for _, told in pairs])


class Texts(Case):
    def test_of_no_rows(self):
        self.assertEqual(answers_of(""), "")
        self.assertEqual(answers_of(text=""), "")

    def test_a_row_for_each(self):
        self.assertEqual(answers_of("truths 1\n"), "ok\n")
        self.assertEqual(answers_of("\n\n"), "no row\nno row\n")
        self.assertEqual(answers_of("truths 2\ngroup\nput 1 2\ngroup\n"), "ok\n8\nok\n2\n")

    def test_a_last_row_without_a_line_end(self):
        assert_no_text(self, 0, answers_of, "truths 1")
        assert_no_text(self, 0, answers_of, " ")
        assert_no_text(self, 1, answers_of, "truths 1\ngroup")
        assert_no_text(self, 2, answers_of, "\n\nno row at all")
        assert_no_text(self, 3, answers_of, "no row\nno row\ntruths 13\n-")

    def test_what_is_no_text(self):
        for thing in no_lists() + no_numbers() + [0, b"truths 1\n", ["truths 1\n"]]:
            if type(thing) is not str:
                assert_no_text(self, 0, answers_of, thing)

    def test_nothing_stays_from_one_text_to_the_next(self):
        answers_of("truths 3\nput 1\n")
        self.assertEqual(answers_of("group\n"), "no row\n")
        self.assertEqual(answers_of("truths 3\ngroup\n"), "ok\n48\n")


class FirstBench(Case):
    def test_no_row_ahead_of_it(self):
        rows = ["put 1", "drop 1", "hold 1", "back", "again", "group", "orbits", "fits 1", "kinds", "count", "solve", "least 1", "form", "put -", "hold 9"]
        self.assertEqual(told_by(*rows + NO_ROWS), ["no row"] * (len(rows) + len(NO_ROWS)))
        self.assert_told(("group", "no row"), ("truths 13", "refused NoProblem"), ("group", "no row"), ("truths 0", "no row"), ("truths 1", "ok"),
                         ("group", "2"))

    def test_truths(self):
        for many in range(1, 13):
            self.assert_told((f"truths {many}", "ok"), ("count", str(2 ** many)), ("least " + "0" * many, "0" * many))
        for many in (13, 14, 99, 100, 400, 401, 999):
            self.assert_told((f"truths {many}", "refused NoProblem"), ("count", "no row"))

    def test_truths_again(self):
        self.assert_told(("truths 3", "ok"), ("put 1 2", "ok"), ("truths 2", "ok"), ("count", "4"), ("back", "refused NoDeed"), ("again", "refused NoDeed"),
                         ("put 1 2", "ok"), ("truths 2", "ok"), ("put 1 2", "ok"), ("count", "3"))

    def test_the_bench_stands_where_another_one_is_refused(self):
        self.assert_told(("truths 2", "ok"), ("put 1", "ok"), ("truths 13", "refused NoProblem"), ("count", "2"), ("truths 999", "refused NoProblem"),
                         ("truths 1000", "no row"), ("form", "-2"), ("back", "ok"), ("count", "4"), ("again", "ok"))


class Rows(Case):
    def test_put_and_drop(self):
        self.assert_told(
            ("truths 3", "ok"), ("put 1 -2", "ok"), ("put -2 1 1", "refused Twice"), ("put -", "ok"), ("put -", "refused Twice"), ("count", "0"),
            ("drop -", "ok"), ("drop -", "refused NotThere"), ("count", "6"), ("put 1 -1", "refused NoClause"), ("put 4", "refused NoClause"),
            ("put -999", "refused NoClause"), ("drop 1 -1", "refused NoClause"), ("drop 4", "refused NoClause"), ("drop 1 2", "refused NotThere"),
            ("drop -2 1 -2", "ok"), ("drop 1 -2", "refused NotThere"), ("count", "8"), ("put 3 2 1", "ok"), ("drop 1 2 3", "ok"))

    def test_hold(self):
        self.assert_told(("truths 3", "ok"), ("hold 3", "ok"), ("hold 3", "refused Twice"), ("put 3", "refused Twice"), ("hold -3", "ok"), ("count", "0"),
                         ("hold 4", "refused NoLetter"), ("hold -999", "refused NoLetter"), ("drop 3", "ok"), ("count", "4"), ("drop -3", "ok"))

    def test_back_and_again(self):
        self.assert_told(
            ("truths 2", "ok"), ("back", "refused NoDeed"), ("again", "refused NoDeed"), ("hold 1", "ok"), ("put 1 2", "ok"), ("drop 1", "ok"),
            ("count", "3"), ("back", "ok"), ("count", "2"), ("back", "ok"), ("back", "ok"), ("back", "refused NoDeed"), ("count", "4"), ("again", "ok"),
            ("again", "ok"), ("again", "ok"), ("again", "refused NoDeed"), ("count", "3"), ("back", "ok"), ("put 1", "refused Twice"), ("again", "ok"),
            ("back", "ok"), ("hold -2", "ok"), ("again", "refused NoDeed"))

    def test_group_and_orbits(self):
        self.assert_told(
            ("truths 3", "ok"), ("group", "48"), ("orbits", "-3 -2 -1 1 2 3"), ("put 1 2", "ok"), ("group", "4"), ("orbits", "-3 3; -2 -1; 1 2"), ("hold 3", "ok"),
            ("group", "2"), ("orbits", "-3; -2 -1; 1 2; 3"), ("put 1", "ok"), ("group", "1"), ("orbits", "-3; -2; -1; 1; 2; 3"))
        self.assert_told(("truths 12", "ok"), ("group", "1961990553600"), ("truths 1", "ok"), ("orbits", "-1 1"), ("hold 1", "ok"), ("orbits", "-1; 1"))

    def test_fits(self):
        self.assert_told(
            ("truths 3", "ok"), ("put 1 2", "ok"), ("fits 2 1 -3", "yes"), ("fits 1 2 3", "yes"), ("fits 1 3 2", "no"), ("fits -1 2 3", "no"), ("fits 1 2", "no"),
            ("fits 1 2 3 4", "no"), ("fits 1 1 3", "no"), ("fits 2 1 -4", "no"), ("fits 1", "no"), ("fits 999", "no"), ("fits 1 -1 3", "no"))

    def test_kinds_and_count(self):
        self.assert_told(
            ("truths 3", "ok"), ("kinds", "000 8"), ("count", "8"), ("put 1 2 3", "ok"), ("kinds", "001 3; 011 3; 111 1"), ("count", "7"), ("hold 3", "ok"),
            ("kinds", "001 1; 011 2; 111 1"), ("count", "4"), ("drop 1 2 3", "ok"), ("put 1 2", "ok"), ("kinds", "011 2; 111 1"), ("put -", "ok"), ("kinds", "-"), ("count", "0"))
        self.assert_told(("truths 12", "ok"), ("count", "4096"), ("kinds", "000000000000 4096"), ("truths 1", "ok"), ("hold -1", "ok"), ("kinds", "0 1"))

    def test_solve(self):
        self.assert_told(("truths 3", "ok"), ("put 1", "ok"), ("put -2", "ok"), ("put -1 3", "ok"), ("solve", "yes 101"), ("hold -3", "ok"), ("solve", "no"),
                         ("back", "ok"), ("solve", "yes 101"), ("put -", "ok"), ("solve", "no"))
        self.assertIn(told_by("truths 1", "solve")[1], ("yes 0", "yes 1"))

    def test_least(self):
        self.assert_told(
            ("truths 3", "ok"), ("least 111", "000"), ("put 1 2 3", "ok"), ("least 110", "011"), ("least 011", "011"), ("least 000", "000"), ("least 100", "001"),
            ("least 11", "refused NoAnswer"), ("least 1100", "refused NoAnswer"), ("least 0", "refused NoAnswer"), ("least " + "01" * 300, "refused NoAnswer"),
            ("hold 1", "ok"), ("least 110", "101"), ("least 001", "001"), ("least 010", "001"))

    def test_form(self):
        self.assert_told(
            ("truths 3", "ok"), ("form", "none"), ("put 3", "ok"), ("form", "-3"), ("put 1 -2", "ok"), ("form", "-3; -1 -2"), ("put -", "ok"), ("form", "-; -3; -1 -2"),
            ("truths 6", "ok"), ("form", "none"), ("put 1 2 3 4 5 6", "ok"), ("form", "-1 -2 -3 -4 -5 -6"), ("truths 7", "ok"), ("form", "refused TooMany"))

    def test_the_bench_stands_as_it_was_where_a_row_is_refused(self):
        self.assert_told(
            ("truths 7", "ok"), ("put 1 2", "ok"), ("put 3", "ok"), ("back", "ok"), ("put 1 2", "refused Twice"), ("put 8", "refused NoClause"),
            ("drop 3", "refused NotThere"), ("hold 8", "refused NoLetter"), ("form", "refused TooMany"), ("least 1", "refused NoAnswer"),
            ("truths 13", "refused NoProblem"), ("again", "ok"), ("again", "refused NoDeed"), ("count", "48"))

    def test_too_many_clauses(self):
        rows = [f"put {one} {sign * other} {more * third}" for one in range(1, 11) for other in range(one + 1, 12) for third in range(other + 1, 13)
                for sign in (1, -1) for more in (1, -1)][:401]
        self.assertEqual(told_by("truths 12", *rows), ["ok"] * 401 + ["refused TooMany"])

    def test_no_row(self):
        rows = [row for one in NO_ROWS for row in (one, "count")]
        self.assertEqual(told_by("truths 3", "put 1 2", *rows), ["ok", "ok"] + ["no row", "6"] * len(NO_ROWS))


class Trials(Case):
    """Rows of many kinds, against what a bench and the other files tell."""

    def test_some_rows(self):
        chance = random.Random(91)
        for many in (1, 2, 3, 3, 4, 4):
            rows, wanted = [f"truths {many}"], ["ok"]
            bench = Bench(many)
            for _ in range(80):
                row, call = self.some_row(chance, many)
                rows.append(row)
                try:
                    wanted.append(call(bench))
                except TurnError as error:
                    wanted.append("refused " + error.__class__.__name__)
            told = told_by(*rows)
            for row, one, right in zip(rows, told, wanted):
                if row == "solve":
                    self.assertTrue(right(one))
                else:
                    self.assertEqual(one, "ok" if right is None else right, row)

    def some_row(self, chance, many):
        word = chance.choice(("put", "put", "put", "drop", "hold", "back", "again", "group", "orbits", "fits", "kinds", "count", "solve", "least", "form"))
        letters = [truth * chance.choice((1, -1)) for truth in chance.sample(range(1, many + 1), chance.randint(1, many))]
        if chance.random() < 0.05:
            letters.append(many + 1)
        row = " ".join(map(str, letters))
        if word in ("put", "drop"):
            return f"{word} {row}", lambda bench: getattr(bench, word)(letters)
        if word == "hold":
            return f"hold {letters[-1]}", lambda bench: bench.hold(letters[-1])
        if word in ("back", "again"):
            return word, lambda bench: getattr(bench, word)()
        if word == "fits":
            return f"fits {row}", lambda bench: "yes" if fits(bench.problem(), tuple(letters)) else "no"
        if word == "least":
            answer = tuple(chance.choice((0, 1)) for _ in range(chance.choice((many, many, many, many + 1))))
            return "least " + self.signs(answer), lambda bench: self.signs(least(all_turns(bench.problem()), answer)[0])
        return word, {"group": self.group, "orbits": self.orbits, "kinds": self.kinds, "count": self.count, "solve": self.solve, "form": self.form}[word]

    def signs(self, answer):
        return "".join(map(str, answer))

    def group(self, bench):
        return str(len(fitting(bench.problem())))

    def orbits(self, bench):
        return "; ".join(" ".join(map(str, orbit)) for orbit in bench.group().orbits())

    def kinds(self, bench):
        problem = bench.problem()
        found = kinds_by(problem, fitting(problem))
        return "; ".join(f"{self.signs(answer)} {often}" for answer, often in found.items()) or "-"

    def count(self, bench):
        return str(len(answers(bench.problem())))

    def solve(self, bench):
        problem = bench.problem()
        if not answers(problem):
            return lambda told: told == "no"
        return lambda told: told[:4] == "yes " and is_answer(problem, tuple(map(int, told[4:])))

    def form(self, bench):
        clauses = formed(bench.problem())[0].clauses
        return "; ".join(" ".join(map(str, clause)) or "-" for clause in clauses) or "none"


if __name__ == "__main__":
    unittest.main()
