"""order, rounds and turn_of."""

import itertools
import random
import unittest
from math import lcm

from things import no_lists, no_numbers
from turning import WRONG_MANY, all_of, behind, cycled, goes, letters_of, random_turn

from turnless.errors import NoTurn
from turnless.turns import order, rounds, still, turn_of


def often(turn):
    """How often the turn must be done, once at least, to leave all."""
    first = tuple(range(1, len(turn) + 1))
    count, done = 1, turn
    while done != first:
        count, done = count + 1, behind(done, turn)
    return count


def rounds_by(turn):
    """The rounds, by the words of the document."""
    found = []
    for k in range(1, len(turn) + 1):
        if goes(turn, k) != k and not any(k in told or -k in told for told in found):
            told = [k]
            while goes(turn, told[-1]) != k:
                told.append(goes(turn, told[-1]))
            found.append(tuple(told))
    return found


def long_turns():
    """Turns of many truths, with cycles of several lengths, and how often each must be done."""
    closed = cycled(400, (1, 2, 3), tuple(range(10, 17)), (20, -21, 22, -23, 24), tuple(range(30, 41)), (400, 399))
    # Three letters, then their other signs: a round of six.
    crossed = cycled(400, (1, 2, 3, -1, -2, -3), tuple(range(10, 17)), (50, -50))
    at, lengths = 1, (2, 3, 5, 7, 11, 13, 17, 19, 23, 29)
    cycles = []
    for length in lengths:
        cycles.append(tuple(range(at, at + length)))
        at += length
    twice = [cycle + tuple(-letter for letter in cycle) for cycle in cycles]
    return [
        (closed, 3 * 7 * 5 * 11 * 2), (crossed, 42), (cycled(400, *cycles), lcm(*lengths)),
        (cycled(400, *twice), 2 * lcm(*lengths)), (cycled(400, tuple(range(1, 401))), 400),
        (tuple(range(2, 401)) + (-1,), 800), (tuple(range(-1, -401, -1)), 2), (tuple(range(1, 401)), 1),
        (cycled(129, *cycles), lcm(*lengths)),
    ]


class Order(unittest.TestCase):
    def test_few_truths(self):
        for many in (1, 2, 3):
            for turn in all_of(many):
                self.assertEqual(order(turn), often(turn), turn)
        chance = random.Random(4)
        for turn in [random_turn(chance, many) for many in (4, 5, 8, 12, 12, 20)]:
            self.assertEqual(order(turn), often(turn), turn)

    def test_still_is_done_once(self):
        for many in (1, 2, 400):
            self.assertEqual(order(still(many)), 1)

    def test_cycles_and_those_closed_by_the_other_sign(self):
        self.assertEqual(order((-1,)), 2)
        self.assertEqual(order((2, 3, 1)), 3)
        self.assertEqual(order((2, 3, -1)), 6)
        self.assertEqual(order((2, -1, 4, 5, 3)), 12)
        self.assertEqual(order((-2, -1)), 2)
        for turn, count in long_turns():
            self.assertEqual(order(turn), count)


class Rounds(unittest.TestCase):
    def test_the_four_examples(self):
        self.assertEqual(rounds((-1,)), [(1, -1)])
        self.assertEqual(rounds((2, 1)), [(1, 2)])
        self.assertEqual(rounds((2, -1)), [(1, 2, -1, -2)])
        self.assertEqual(rounds((-2, -1)), [(1, -2)])

    def test_what_stays_is_in_none(self):
        self.assertEqual(rounds(still(1)), [])
        self.assertEqual(rounds(still(400)), [])
        self.assertEqual(rounds((1, -2, 3)), [(2, -2)])
        self.assertEqual(rounds((1, 2, 4, 3)), [(3, 4)])

    def test_several(self):
        self.assertEqual(rounds((3, -2, 1, 5, -4)), [(1, 3), (2, -2), (4, 5, -4, -5)])
        self.assertEqual(rounds((-3, 4, -1, 2)), [(1, -3), (2, 4)])
        self.assertEqual(rounds((-3, 1, -2)), [(1, -3, 2)])

    def test_all_turns_of_few_truths(self):
        for many in (1, 2, 3, 4):
            for turn in all_of(many):
                told = rounds(turn)
                self.assertEqual(told, rounds_by(turn), turn)
                self.assertTrue(type(told) is list and all(type(letters) is tuple for letters in told))

    def test_many_truths(self):
        chance = random.Random(5)
        for turn in [turn for turn, _ in long_turns()] + [random_turn(chance, many) for many in (12, 50, 400)]:
            self.assertEqual(rounds(turn), rounds_by(turn))

    def test_the_list_is_the_askers_own(self):
        turn = (2, 1, -3)
        rounds(turn).clear()
        self.assertEqual(rounds(turn), [(1, 2), (3, -3)])


class TurnOf(unittest.TestCase):
    def assert_no_turn(self, many, told):
        with self.subTest(many=many, told=told):
            self.assertRaises(NoTurn, turn_of, many, told)

    def test_of_rounds(self):
        chance = random.Random(6)
        turns = [turn for many in (1, 2, 3) for turn in all_of(many)] + [turn for turn, _ in long_turns()]
        for turn in turns + [random_turn(chance, many) for many in (4, 5, 12, 399, 400)]:
            told = rounds(turn)
            self.assertEqual(turn_of(len(turn), told), turn)
            self.assertEqual(turn_of(len(turn), tuple(told)), turn)
            self.assertEqual(told, rounds(turn))

    def test_of_no_rounds(self):
        for many in (1, 2, 400):
            self.assertEqual(turn_of(many, []), still(many))
            self.assertEqual(turn_of(many, ()), still(many))

    def test_the_four_examples(self):
        self.assertEqual(turn_of(1, [(1, -1)]), (-1,))
        self.assertEqual(turn_of(3, [(1, 2)]), (2, 1, 3))
        self.assertEqual(turn_of(2, [(1, 2, -1, -2)]), (2, -1))
        self.assertEqual(turn_of(2, [(1, -2)]), (-2, -1))

    def test_just_what_rounds_tells_of_one(self):
        # All lists of at most two tuples of letters of two truths, of up to four each.
        some = [told for length in range(5) for told in itertools.product((-2, -1, 1, 2), repeat=length)]
        right = {tuple(rounds_by(turn)): turn for turn in all_of(2)}
        found = 0
        for told in [()] + [(one,) for one in some] + [(one, other) for one in some for other in some[:90]]:
            try:
                self.assertEqual(turn_of(2, list(told)), right[told])
                found += 1
            except NoTurn:
                self.assertNotIn(told, right)
        self.assertEqual(found, 8)

    def test_every_change(self):
        for turn in ((2, 3, 1), (2, -1, -3), (3, -2, 1, 5, -4), (2, 1, 4, 3), (-2, 3, -1, -4)):
            told, many = rounds(turn), len(turn)
            self.assertEqual(turn_of(many, told), turn)
            for at, letters in enumerate(told):
                others = [
                    letters[1:] + letters[:1], letters[-1:] + letters[:-1], tuple(-k for k in letters),
                    letters[:0:-1], letters + letters[:1], letters + letters, (), (letters[0],), list(letters), letters + (0,),
                    letters + (many + 1,), (-letters[0],) + letters[1:], None, letters[0], (letters,),
                    letters + (True,), letters + (float(letters[0]),), letters + (str(letters[0]),), letters + (None,),
                ]
                for other in others:
                    self.assert_no_turn(many, told[:at] + [other] + told[at + 1:])
                self.assert_no_turn(many, told[:at] + [letters, letters] + told[at + 1:])
                self.assert_no_turn(many, told[:at] + [(), letters] + told[at + 1:])
            if len(told) > 1:
                self.assert_no_turn(many, told[::-1])
                self.assert_no_turn(many, told[1:] + told[:1])
            self.assert_no_turn(many, told + [()])
            self.assert_no_turn(many, told + [(many + 1, -many - 1)])

    def test_letters_that_are_equal_to_numbers(self):
        for letters in ((True, 2), (1.0, 2), (2, True), (True, -1), (1, -True * 1.0)):
            self.assert_no_turn(2, [letters])

    def test_one_letter_that_stays(self):
        self.assert_no_turn(2, [(1,)])
        self.assert_no_turn(2, [(1, 2), (2,)])
        self.assert_no_turn(3, [(1, 2), (3,)])

    def test_truths_in_two_rounds(self):
        self.assert_no_turn(3, [(1, 2), (2, 3)])
        self.assert_no_turn(3, [(1, 2), (1, 3)])
        self.assert_no_turn(3, [(1, 2), (-1, -2)])
        self.assert_no_turn(3, [(1, -1), (1, 2)])
        self.assert_no_turn(3, [(1, 2, 3, -1)])
        self.assert_no_turn(3, [(1, 2, -1)])
        self.assert_no_turn(3, [(1, 2, -1, 3)])

    def test_another_many(self):
        self.assert_no_turn(1, [(1, 2)])
        self.assert_no_turn(399, [(1, 400)])
        for many in WRONG_MANY:
            self.assert_no_turn(many, [])
            self.assert_no_turn(many, [(1, -1)])
        self.assertEqual(turn_of(400, [(1, 400)])[0], 400)

    def test_many_of_anything(self):
        for many in no_numbers():
            self.assert_no_turn(many, [])
            self.assert_no_turn(many, None)

    def test_told_of_anything(self):
        for told in no_lists():
            self.assert_no_turn(2, told)
            self.assert_no_turn(2, [told])
            self.assert_no_turn(2, [(1, told)] if told not in (-1,) else [(1, 0)])
        for told in ([[1, 2]], [[]], ((1, 2), None), [(1, [2])], [1, 2], (1, 2), "12", [letters_of(2)]):
            self.assert_no_turn(2, told)


if __name__ == "__main__":
    unittest.main()
