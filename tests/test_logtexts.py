"""log_text and read_log, with each row changed anywhere."""

import random
import unittest

from things import assert_no_text, no_lists, no_numbers

from turnless.judging import lets_by
from turnless.logtexts import log_text, read_log
from turnless.problems import Problem
from turnless.solving import WAYS, solved

# Each row with the step of which it is.
STEPS = {
    "order 2 -1 3": ("order", (2, -1, 3)), "learn 1 -2": ("learn", (1, -2)), "pure -": ("pure", ()), "turned 3 by 2 1 -3": ("turned", 3, (2, 1, -3)),
    "turn 2 1 -3": ("turn", (2, 1, -3)), "drop 1": ("drop", (1,)), "learn -": ("learn", ()), "drop -": ("drop", ()), "pure -7": ("pure", (-7,)),
    "order 1": ("order", (1,)), "order -1": ("order", (-1,)), "turn -1": ("turn", (-1,)), "turned 0 by -1": ("turned", 0, (-1,)),
    "turned 10 by 1": ("turned", 10, (1,)), "turned 9999 by 1 2": ("turned", 9999, (1, 2)), "turned 1000 by 2 1": ("turned", 1000, (2, 1)),
    "learn 9 10 -99 100 999": ("learn", (9, 10, -99, 100, 999)), "pure -1 2 -400 401": ("pure", (-1, 2, -400, 401)), "drop -12 13": ("drop", (-12, 13)),
}

# Rows that are no such form.
NO_ROWS = [
    "", " ", "-", "1 -2", "learn", "pure", "drop", "order", "turn", "turned", "learn ", "order ", "turn ", "turned ", "Learn 1", "LEARN 1", "learnt 1",
    "lear 1", "puree -", "put 1", "hold 1", "turns 1", "yes", "learn1", "learn-", "learn  1", "learn 1 ", " learn 1", "learn 1  2", "learn\t1", "learn 1\r",
    "learn 0", "learn -0", "learn 01", "learn -01", "learn 1 02", "learn +1", "learn 1.0", "learn a", "learn --1", "learn 1-2", "learn 1,2", "learn 1000",
    "learn -1000", "learn 1 -", "learn - 1", "learn - -", "learn 2 1", "learn 1 1", "learn 1 -1", "learn -1 1", "learn 1 3 2", "learn 3 -3", "pure 2 1",
    "pure 1 1", "drop 2 1", "drop -2 -1", "drop 1 2 2", "drop --", "order -", "turn -", "order 0", "turn 0", "order 1 0", "turn 1  2", "turn 1 2 ", "turn 01",
    "turn 1000", "order 1 a", "turn 1 by 2", "turned 3", "turned by 1", "turned 3 by", "turned 3 by ", "turned 3 by -", "turned 3 by 0", "turned 3 by 1 ",
    "turned 3  by 1", "turned 3 by  1", "turned 03 by 1", "turned 00 by 1", "turned -1 by 1", "turned -0 by 1", "turned 10000 by 1", "turned 99999 by 1",
    "turned 3 By 1", "turned 3 to 1", "turned 3 1", "turned 3 by by 1", "turned a by 1", "turned 1.0 by 1", "turned  by 1", "turned 3 by 1 by 2",
    "turned 3 by 01", "turned 3 by 1000", "turned 3by 1", "turned 3 by1", "turned 3 4 by 1", "truths 3", "order 1 -", "# learn 1", "('learn', (1,))",
]


class LogText(unittest.TestCase):
    def test_sign_by_sign(self):
        for row, step in STEPS.items():
            self.assertEqual(log_text([step]), row + "\n")

    def test_of_steps_in_order(self):
        self.assertEqual(log_text(list(STEPS.values())), "".join(row + "\n" for row in STEPS))
        self.assertEqual(log_text(tuple(STEPS.values())), log_text(log=list(STEPS.values())))
        self.assertEqual(log_text([("drop", ()), ("learn", (1,)), ("drop", ())]), "drop -\nlearn 1\ndrop -\n")

    def test_of_no_steps(self):
        self.assertEqual(log_text([]), "")
        self.assertEqual(log_text(()), "")


class ReadLog(unittest.TestCase):
    def test_back(self):
        for row, step in STEPS.items():
            told = read_log(row + "\n")
            self.assertEqual(told, [step])
            self.assertEqual((type(told), type(told[0]), type(told[0][-1])), (list, tuple, tuple))
        self.assertEqual(read_log("".join(row + "\n" for row in STEPS)), list(STEPS.values()))
        self.assertEqual(read_log(text=log_text(STEPS.values())), list(STEPS.values()))

    def test_of_no_signs(self):
        self.assertEqual(read_log(""), [])
        read_log("").append(1)
        self.assertEqual(read_log(""), [])

    def test_letters_of_order_and_turn_are_any(self):
        for word, ahead in (("order", ("order",)), ("turn", ("turn",)), ("turned 0 by", ("turned", 0))):
            for letters in ((3, 1), (1, 1), (1, -1), (-1, 1, 1), (999,), (5, -5, 5, 2)):
                row = " ".join(map(str, letters))
                self.assertEqual(read_log(f"{word} {row}\n"), [ahead + (letters,)])

    def test_no_form(self):
        good = list(STEPS)
        for row in NO_ROWS:
            for at in (0, 1, 4):
                rows = good[:at] + [row] + good[at:8]
                assert_no_text(self, at, read_log, "".join(one + "\n" for one in rows))
                assert_no_text(self, at, read_log, "".join(one + "\n" for one in rows + [row]))
                assert_no_text(self, at, read_log, "\n".join(rows + ["pure 1"]))
        assert_no_text(self, 0, read_log, "\n")
        assert_no_text(self, 1, read_log, "pure -\n\n")
        assert_no_text(self, 0, read_log, "\npure -\n")

    def test_a_last_row_without_a_line_end(self):
        for at in range(6):
            text = "".join(row + "\n" for row in list(STEPS)[:at])
            for last in list(STEPS) + NO_ROWS[1:]:
                assert_no_text(self, at, read_log, text + last)

    def test_one_sign_changed(self):
        signs = "0123456789- \nabylearnputdoi"
        chance = random.Random(90)
        text = "".join(row + "\n" for row in list(STEPS)[:8])
        for at in range(len(text)):
            for told in [text[:at] + text[at + 1:]] + [text[:at] + sign + text[at + more:] for sign in chance.sample(signs, 8) for more in (0, 1)]:
                rows = told.split("\n")
                wrong = [place for place, row in enumerate(rows[:-1]) if not self.is_row(row)] + ([len(rows) - 1] if rows[-1] else [])
                if wrong:
                    assert_no_text(self, wrong[0], read_log, told)
                else:
                    self.assertEqual(log_text(read_log(told)), told)

    def is_row(self, row):
        """Whether it is a row by its words alone."""
        word, *more = row.split(" ")
        if word == "turned":
            if len(more) < 3 or more[1] != "by" or not (more[0] == "0" or self.is_figures(more[0], 4)):
                return False
            return all(self.is_letter(one) for one in more[2:])
        if word in ("order", "turn"):
            return len(more) > 0 and all(self.is_letter(one) for one in more)
        if word not in ("learn", "pure", "drop"):
            return False
        if more == ["-"]:
            return True
        truths = [abs(int(one)) for one in more if self.is_letter(one)]
        return len(truths) == len(more) > 0 and truths == sorted(set(truths))

    def is_letter(self, word):
        return self.is_figures(word[1:] if word[:1] == "-" else word, 3)

    def is_figures(self, word, most):
        return 1 <= len(word) <= most and set(word) <= set("0123456789") and word[0] != "0"

    def test_what_is_no_text(self):
        for thing in no_lists() + no_numbers() + [0, 1, b"pure -\n", ["pure -\n"], [("pure", ())]]:
            if type(thing) is not str:
                assert_no_text(self, 0, read_log, thing)

    def test_logs_that_solved_tells(self):
        holes = Problem(6, [[1, 2], [3, 4], [5, 6]] + [[-(k + hole), -(j + hole)] for hole in (0, 1) for k, j in ((1, 3), (1, 5), (3, 5))])
        for way in WAYS:
            word, log = solved(holes, way=way)
            self.assertEqual(word, "no")
            again = read_log(log_text(log))
            self.assertEqual(again, log)
            self.assertIs(lets_by(holes, again), True)


if __name__ == "__main__":
    unittest.main()
