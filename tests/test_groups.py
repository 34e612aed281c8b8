"""Group, against all products of its makers, and what it refuses, in which order."""

import itertools
import math
import random
import unittest

from things import Odd, no_lists, no_numbers
from turning import M12, all_of, behind, cycled, goes, letters_of, products, random_turn

from turnless.errors import NoLetter, NoProblem, NoTurn, NotThere, TooMany
from turnless.groups import Group
from turnless.turns import back, still, then

KINDS = [
    (1, []), (1, [(1,)]), (1, [(-1,)]), (2, []), (2, [(2, 1)]), (2, [(-1, 2)]), (2, [(2, -1)]), (2, [(-2, -1)]),
    (2, [(2, 1), (-1, 2)]), (3, [(2, 3, 1)]), (3, [(2, 3, -1)]), (3, [(2, 1, 3), (2, 3, 1)]), (3, [(-1, -2, 3)]),
    (3, [(1, 2, 3), (-1, 2, 3), (1, 2, -3)]), (3, [(1, 3, 2)]), (3, [(2, 1, -3), (3, -2, 1)]),
    (4, [(2, 1, 4, 3), (3, 4, 1, 2)]), (4, [(2, 3, 4, 1), (1, 4, 3, 2)]), (4, [(2, 3, 4, -1)]),
    (4, [(2, 3, 1, 4), (2, 1, 4, 3)]), (4, [(2, 3, 4, 1), (2, 1, 3, 4), (-1, 2, 3, 4)]), (4, [(1, 2, 4, -3)]),
    (5, [(2, 3, 1, 4, 5), (1, 2, 3, 5, 4)]), (6, [(2, 3, 1, 4, 5, 6), (4, 5, 6, -1, -2, -3)]),
]

SWAP = (2, 1) + tuple(range(3, 13))
ROUND = cycled(12, tuple(range(1, 13)))
FLIP = (-1,) + tuple(range(2, 13))

def some_groups():
    """Pairs of a group and the rising list of its turns, for makers of several kinds and bases of any letters."""
    chance = random.Random(7)
    told = [(many, makers, ()) for many, makers in KINDS]
    for many, makers in KINDS:
        truths = chance.sample(range(1, many + 1), chance.randint(1, many))
        told.append((many, makers, tuple(truth * chance.choice((1, -1)) for truth in truths)))
    for many in (2, 3, 3, 4, 4):
        makers = [random_turn(chance, many) for _ in range(chance.randint(1, 3))]
        told.append((many, makers, (-many, 1)))
    return [(Group(many, makers, base=base), products(many, makers), base) for many, makers, base in told]


def base_by(many, turns, base):
    found = list(base)
    while True:
        staying = [turn for turn in turns if all(goes(turn, k) == k for k in found)]
        moved = [k for k in range(1, many + 1) if any(goes(turn, k) != k for turn in staying)]
        if not moved:
            return found
        found.append(moved[0])


class OfProducts(unittest.TestCase):
    @classmethod
    def setUpClass(cls):
        cls.some = some_groups()

    def test_truths_and_size(self):
        for group, turns, _ in self.some:
            self.assertEqual(group.truths(), len(turns[0]))
            self.assertEqual(group.size(), len(turns))

    def test_has_just_the_products(self):
        for group, turns, _ in self.some:
            if group.truths() < 5:
                own = set(turns)
                for turn in all_of(group.truths()):
                    self.assertIs(group.has(turn), turn in own, turn)

    def test_turns_rise(self):
        for group, turns, _ in self.some:
            told = group.turns()
            self.assertEqual(told, turns)
            self.assertIs(type(told), list)

    def test_makers_make_it_and_none_is_still(self):
        for group, turns, _ in self.some:
            makers = group.makers()
            self.assertIs(type(makers), list)
            self.assertLessEqual(len(makers), 60)
            self.assertNotIn(still(group.truths()), makers)
            self.assertEqual(products(group.truths(), makers), turns)

    def test_base(self):
        for group, turns, base in self.some:
            told = group.base()
            self.assertIs(type(told), list)
            self.assertEqual(told, base_by(group.truths(), turns, base))

    def test_floors(self):
        for group, turns, _ in self.some:
            floors, base = group.floors(), group.base()
            self.assertEqual((type(floors), len(floors)), (list, len(base)))
            for at, floor in enumerate(floors):
                staying = [turn for turn in turns if all(goes(turn, k) == k for k in base[:at])]
                # In this order, too.
                self.assertEqual(list(floor), sorted({goes(turn, base[at]) for turn in staying}))
                for letter, turn in floor.items():
                    self.assertIn(turn, staying)
                    self.assertEqual(goes(turn, base[at]), letter)
            self.assertEqual(math.prod(len(floor) for floor in floors), len(turns))

    def test_factors(self):
        for group, turns, _ in self.some:
            floors = group.floors()
            for turn in turns[::max(1, len(turns) // 60)]:
                told = group.factors(turn)
                self.assertEqual((type(told), len(told)), (list, len(floors)))
                done = still(group.truths())
                for factor, floor in zip(told, floors[::-1]):
                    self.assertIn(factor, list(floor.values()))
                    done = behind(done, factor)
                self.assertEqual(done, turn)

    def test_orbits(self):
        for group, turns, _ in self.some:
            orbits = {k: tuple(sorted({goes(turn, k) for turn in turns})) for k in letters_of(group.truths())}
            for letter, orbit in orbits.items():
                self.assertEqual(group.orbit(letter), orbit)
                self.assertIs(type(group.orbit(letter)), tuple)
            told = group.orbits()
            self.assertEqual(told, sorted(set(orbits.values())))
            self.assertIs(type(told), list)

    def test_leaving(self):
        for group, turns, _ in self.some:
            many = group.truths()
            for letters in [[], [1], [-1], [many, -1], [1, 1], [1, -1, 1], list(range(1, many + 1)), (many,), (-many, many)]:
                told = group.leaving(letters)
                wanted = [turn for turn in turns if all(goes(turn, k) == k for k in letters)]
                self.assertIs(type(told), Group)
                self.assertEqual((told.truths(), told.size(), told.turns()), (many, len(wanted), wanted))
                self.assertEqual(told.base(), base_by(many, wanted, ()))
                self.assertLessEqual(len(told.makers()), 60)
                self.assertEqual(products(many, told.makers()), wanted)

    def test_asked_again_it_is_the_same(self):
        for group, _, base in self.some:
            other = Group(group.truths(), group.makers(), base=base)
            for one in (group, other):
                self.assertEqual([list(floor.items()) for floor in one.floors()],
                                 [list(floor.items()) for floor in group.floors()])
                self.assertEqual((one.makers(), one.base(), one.orbits()), (group.makers(), group.base(), group.orbits()))


class Makers(unittest.TestCase):
    def test_none(self):
        for group in (Group(3), Group(3, []), Group(3, ()), Group(many=3, makers=[still(3)] * 60, base=[])):
            self.assertEqual((group.truths(), group.makers(), group.base(), group.floors()), (3, [], [], []))
            self.assertEqual((group.size(), group.turns(), group.factors((1, 2, 3))), (1, [(1, 2, 3)], []))
            self.assertEqual(group.orbits(), [(-3,), (-2,), (-1,), (1,), (2,), (3,)])

    def test_of_one_and_of_twelve_truths(self):
        self.assertEqual(Group(1, [(-1,)]).turns(), [(-1,), (1,)])
        self.assertEqual(Group(12).truths(), 12)
        self.assertEqual(Group(12, [FLIP]).size(), 2)

    def test_sixty_each_twice_and_still_among_them(self):
        chance = random.Random(8)
        few = all_of(4)
        for makers in (chance.sample(few, 60), chance.sample(few, 30) * 2, [still(4)] * 59 + [(2, 3, 4, -1)],
                       [(2, 1, 3, 4)] * 30 + [still(4)] * 30, [(2, 1, 4, 3), (3, 4, 1, 2), still(4)] * 20):
            group = Group(4, makers)
            turns = products(4, makers)
            self.assertEqual(group.turns(), turns)
            told = group.makers()
            self.assertLessEqual(len(told), 60)
            self.assertNotIn(still(4), told)
            self.assertEqual(products(4, told), turns)

    def test_sixty_of_twelve_truths(self):
        exchanges = []
        for one, other in itertools.combinations(range(1, 13), 2):
            exchanges.append(cycled(12, (one, other)))
        group = Group(12, exchanges[:60])
        self.assertEqual(group.size(), math.factorial(12))
        self.assertLessEqual(len(group.makers()), 60)
        self.assertEqual(Group(12, group.makers()), group)
        over = [tuple(-k if k == truth else k for k in range(1, 13)) for truth in range(1, 13)]
        self.assertEqual(Group(12, exchanges[:48] + over).leaving([2, -7]).size(), math.factorial(10) * 2 ** 10)

    def test_a_tuple_of_makers_and_of_letters(self):
        self.assertEqual(Group(3, ((2, 1, 3),), base=(-3,)), Group(3, [(2, 1, 3)], base=[-3]))
        self.assertEqual(Group(3, ((2, 1, 3),), base=(-3,)).base(), [-3, 1])


class Base(unittest.TestCase):
    def test_what_is_handed_in_comes_first(self):
        makers = [(2, 3, 4, 1), (2, 1, 3, 4)]
        self.assertEqual(Group(4, makers).base(), [1, 2, 3])
        self.assertEqual(Group(4, makers, base=[3]).base(), [3, 1, 2])
        self.assertEqual(Group(4, makers, base=[-4, 2]).base(), [-4, 2, 1])
        self.assertEqual(Group(4, makers, base=[4, -3, 2, 1]).base(), [4, -3, 2, 1])

    def test_letters_that_no_turn_moves(self):
        group = Group(4, [(1, 2, 4, 3)], base=[-1, 2])
        self.assertEqual(group.base(), [-1, 2, 3])
        self.assertEqual(group.floors()[:2], [{-1: still(4)}, {2: still(4)}])
        self.assertEqual(group.floors()[2], {3: still(4), 4: (1, 2, 4, 3)})
        self.assertEqual(group.factors((1, 2, 4, 3)), [(1, 2, 4, 3), still(4), still(4)])
        self.assertEqual(Group(2, base=[2, 1]).floors(), [{2: (1, 2)}, {1: (1, 2)}])

    def test_the_least_that_is_moved_be_it_to_its_other_sign(self):
        self.assertEqual(Group(3, [(1, -2, 3), (1, 2, -3)]).base(), [2, 3])
        self.assertEqual(Group(3, [(1, -2, -3)]).base(), [2])
        self.assertEqual(Group(3, [(1, -2, 3)]).floors(), [{-2: (1, -2, 3), 2: (1, 2, 3)}])

    def test_floors_rise_as_numbers(self):
        floors = Group(3, [(2, 3, -1)], base=[-2]).floors()
        self.assertEqual([list(floor) for floor in floors], [[-3, -2, -1, 1, 2, 3]])


class Known(unittest.TestCase):
    def test_sizes_of_groups_of_twelve_truths(self):
        even = [cycled(12, (1, 2, k)) for k in range(3, 13)]
        evens = [cycled(12, (1, -1), (k, -k)) for k in range(2, 13)]
        over = [cycled(12, (k, -k)) for k in range(1, 13)]
        for makers, size in (
            ([SWAP, ROUND, FLIP], math.factorial(12) * 2 ** 12),
            ([SWAP, ROUND], math.factorial(12)),
            (even, math.factorial(12) // 2),
            (even + evens, math.factorial(12) // 2 * 2 ** 11),
            ([SWAP, ROUND] + evens, math.factorial(12) * 2 ** 11),
            (over, 2 ** 12), (evens, 2 ** 11), ([ROUND], 12), ([behind(ROUND, FLIP)], 24),
            ([ROUND, tuple(range(12, 0, -1))], 24), (M12, 95040), (M12[:2], 7920),
            ([cycled(12, (1, 2, 3, 4), (5, 6)), cycled(12, (1, 2), (7, 8, 9))], 24 * 3 * 2),
        ):
            group = Group(12, makers)
            self.assertEqual(group.size(), size)
            self.assertEqual(math.prod(len(floor) for floor in group.floors()), size)
            self.assertEqual(Group(12, makers, base=[-12, 5, 1]).size(), size)

    def test_members_of_groups_of_twelve_truths(self):
        even = Group(12, [cycled(12, (1, 2, k)) for k in range(3, 13)])
        self.assertIs(even.has(cycled(12, (3, 4), (7, 9))), True)
        self.assertIs(even.has(SWAP), False)
        self.assertIs(even.has(cycled(12, (3, -3), (7, -7))), False)
        self.assertEqual(even.orbit(5), tuple(range(1, 13)))
        self.assertEqual(even.orbits(), [tuple(range(-12, 0)), tuple(range(1, 13))])

    def test_factors_in_groups_of_twelve_truths(self):
        chance = random.Random(9)
        for makers in ([SWAP, ROUND, FLIP], M12):
            group = Group(12, makers, base=[-5])
            floors = group.floors()
            turn = still(12)
            for _ in range(40):
                turn = then(turn, chance.choice(makers))
                done = still(12)
                for factor, floor in zip(group.factors(turn), floors[::-1]):
                    self.assertIn(factor, list(floor.values()))
                    done = then(done, factor)
                self.assertEqual(done, turn)
                self.assertTrue(group.has(back(turn)))

    def test_leaving_in_groups_of_twelve_truths(self):
        group = Group(12, M12)
        self.assertEqual([group.leaving(list(range(1, k))).size() for k in range(1, 7)], [95040, 7920, 720, 72, 8, 1])
        whole = Group(12, [SWAP, ROUND, FLIP])
        self.assertEqual(whole.leaving([-3, 7, 3]).size(), math.factorial(10) * 2 ** 10)
        self.assertEqual(whole.leaving([-3, 7, 3]).orbit(3), (3,))
        self.assertEqual(whole.leaving(letters_of(12)).turns(), [still(12)])


class Equal(unittest.TestCase):
    def test_other_makers_and_bases_of_the_same_turns(self):
        one = Group(4, [(2, 3, 4, 1), (2, 1, 3, 4)])
        for other in (
            Group(4, [(2, 1, 3, 4), (1, 3, 2, 4), (1, 2, 4, 3)]), Group(4, [(4, 1, 2, 3), (1, 2, 4, 3)], base=[-3, 1]),
            Group(4, [turn for turn in products(4, [(2, 3, 4, 1), (2, 1, 3, 4)])]), one,
        ):
            self.assertTrue(one == other)
            self.assertTrue(other == one)
            self.assertFalse(one != other)

    def test_all_pairs_of_some(self):
        some = some_groups()
        for (one, turns, _), (other, others, _) in itertools.product(some, repeat=2):
            self.assertIs(one == other, turns == others)
            self.assertIs(one != other, turns != others)

    def test_as_many_turns_but_others(self):
        self.assertFalse(Group(3, [(2, 1, 3)]) == Group(3, [(1, 3, 2)]))
        self.assertFalse(Group(3, [(2, 1, 3)]) == Group(3, [(-1, 2, 3)]))
        self.assertFalse(Group(3, [(2, 1, 3)]) == Group(3, [(2, 1, 3), (1, 3, 2)]))
        self.assertFalse(Group(3, [(2, 1, 3), (1, 3, 2)]) == Group(3, [(2, 1, 3)]))

    def test_unlike_many_truths(self):
        self.assertFalse(Group(2) == Group(3))
        self.assertFalse(Group(2, [(2, 1)]) == Group(3, [(2, 1, 3)]))

    def test_with_nothing_else(self):
        group = Group(2, [(2, 1)])

        class Like:
            def truths(self):
                return 2

            def size(self):
                return 2

            def has(self, thing):
                return True

        for other in no_numbers() + [2, (2, 1), [(1, 2), (2, 1)], [(2, 1)], Like(), Odd(), Group]:
            self.assertIs(group == other, False)
            self.assertIs(group != other, True)


class Own(unittest.TestCase):
    def test_what_is_handed_in_may_be_changed(self):
        makers, base = [(2, 1, 3), (1, 2, 3)], [-3]
        group = Group(3, makers, base=base)
        self.assertEqual((makers, base), ([(2, 1, 3), (1, 2, 3)], [-3]))
        makers[0] = (1, 3, 2)
        makers.append((-1, 2, 3))
        base.append(2)
        self.assertEqual((group.makers(), group.base(), group.size()), ([(2, 1, 3)], [-3, 1], 2))
        letters = [1, 1]
        self.assertEqual(group.leaving(letters).size(), 1)
        self.assertEqual(letters, [1, 1])

    def test_what_is_told_may_be_changed(self):
        group = Group(3, [(2, 1, 3), (1, 2, -3)], base=[3])

        def asked():
            return [group.makers(), group.base(), group.floors(), group.factors((2, 1, -3)), group.orbits(), group.turns()]

        ahead = asked()
        for told in asked():
            told.reverse()
            told.append(None)
        for floor in group.floors():
            floor.clear()
            floor[1] = (-1, 2, 3)
        self.assertEqual(asked(), ahead)
        self.assertEqual((group.size(), group.has((2, 1, -3)), group.has((-1, 2, 3))), (4, True, False))


class RefusedGroups(unittest.TestCase):
    def test_many(self):
        for many in no_numbers() + [0, -1, 13, 14, 400, 10 ** 9, -10 ** 9]:
            with self.subTest(many):
                self.assertRaises(NoProblem, Group, many)

    def test_makers(self):
        for thing in no_lists():
            self.assertRaises(NoTurn, Group, 2, thing)
            self.assertRaises(NoTurn, Group, 2, [thing])
            self.assertRaises(NoTurn, Group, 2, [(2, 1), thing, (1, 2)])
        for thing in ([2, 1], (1,), (1, 2, 3), (1, 1), (1, -1), (0, 1), (True, 2), (1.0, 2), (3, 1), ((2, 1),), "21"):
            with self.subTest(thing):
                self.assertRaises(NoTurn, Group, 2, [thing])
                self.assertRaises(NoTurn, Group, 2, [(2, 1), thing])
        self.assertRaises(NoTurn, Group, 2, (2, 1))

    def test_too_many_makers(self):
        self.assertEqual(Group(2, [(2, 1)] * 60).size(), 2)
        for makers in ([(2, 1)] * 61, [(1, 2)] * 61, ((2, 1),) * 61, [None] * 61, [(2, 1)] * 60 + [None]):
            self.assertRaises(TooMany, Group, 2, makers)

    def test_base(self):
        for thing in no_lists():
            with self.subTest(thing):
                with self.assertRaises(NoLetter):
                    Group(2, base=thing)
        for thing in no_numbers() + [0, 3, -3, 13, 10 ** 9]:
            for base in ([thing], [1, thing], (thing, 2)):
                with self.subTest(base):
                    with self.assertRaises(NoLetter):
                        Group(2, base=base)
        for base in ([1, 1], [1, -1], [-2, 1, 2], [2, 2], [1, 2, 1]):
            with self.assertRaises(NoLetter):
                Group(2, [(2, 1)], base=base)

    def test_the_first_refusal_comes(self):
        many = (None, True, 0, 13)
        too_many = ([None] * 61, [(2, 1)] * 61)
        no_turn = (None, [None], [(1, 2, 3)], [[2, 1]], [(2, 1)] * 59 + [(1, 1)])
        no_letter = (None, [0], [1, 1], [True], 1)
        for first, makers, base in itertools.product(many, too_many + no_turn + ([],), no_letter + ([],)):
            with self.assertRaises(NoProblem):
                Group(first, makers, base=base)
        for makers, base in itertools.product(too_many, no_letter + ([],)):
            with self.assertRaises(TooMany):
                Group(2, makers, base=base)
        for makers, base in itertools.product(no_turn, no_letter + ([],)):
            with self.assertRaises(NoTurn):
                Group(2, makers, base=base)


class RefusedAskings(unittest.TestCase):
    def setUp(self):
        self.group = Group(3, [(2, 1, 3), (1, 2, -3)])

    def test_has_of_anything(self):
        for thing in no_numbers() + [0, 1, (1, 2), (2, 1), (1, 2, 3, 4), [1, 2, 3], [2, 1, 3], (2, 1, True), (True, 2, 3),
                                     (1.0, 2, 3), (1, 1, 3), (1, 2, 0), (1, 3, 2), (-1, 2, 3), (1, 2, 4), "123"]:
            self.assertIs(self.group.has(thing), False, thing)
        self.assertIs(Group(1).has((True,)), False)

    def test_factors_of_anything(self):
        for thing in no_numbers() + [0, (1, 2), [1, 2, 3], [2, 1, 3], (True, 2, 3), (1, 3, 2), (-1, 2, 3), (1, 2, 4)]:
            with self.subTest(thing):
                with self.assertRaises(NotThere) as caught:
                    self.group.factors(thing)
                self.assertIsNone(caught.exception.at)

    def test_orbit_of_anything(self):
        for thing in no_numbers() + [0, 4, -4, 12, 10 ** 9, (1, 2, 3)]:
            with self.subTest(thing):
                self.assertRaises(NoLetter, self.group.orbit, thing)

    def test_leaving_of_anything(self):
        for thing in no_numbers() + [0, 4, -4, 12, 10 ** 9]:
            for letters in ([thing], [1, thing], (thing, 1), [1, 1, -2, thing]):
                with self.subTest(letters):
                    self.assertRaises(NoLetter, self.group.leaving, letters)

    def test_turns_at_the_bound_and_one_beyond(self):
        self.assertEqual(len(self.group.turns(most=4)), 4)
        self.assertEqual(len(self.group.turns(most=5)), 4)
        for most in (3, 1, 0, -1):
            with self.assertRaises(TooMany):
                self.group.turns(most=most)
        self.assertEqual(Group(1).turns(most=1), [(1,)])
        self.assertEqual(len(Group(4, [(2, 3, 4, 1), (2, 1, 3, 4), (-1, 2, 3, 4)]).turns(most=384)), 384)

    def test_the_bound_is_1000_where_it_is_left_out(self):
        # 5! times 2 ** 3, and 2 ** 10.
        makers = [(2, 1) + tuple(range(3, 9)), (2, 3, 4, 5, 1, 6, 7, 8)] + [cycled(8, (k, -k)) for k in (6, 7, 8)]
        self.assertEqual(len(Group(8, makers).turns()), 960)
        group = Group(10, [cycled(10, (k, -k)) for k in range(1, 11)])
        self.assertRaises(TooMany, group.turns)
        self.assertEqual(len(group.turns(most=1024)), 1024)
        with self.assertRaises(TooMany):
            group.turns(most=1023)
        self.assertRaises(TooMany, Group(12, [SWAP, ROUND, FLIP]).turns)

    def test_what_is_refused_changes_nothing(self):
        ahead = (self.group.makers(), self.group.base(), self.group.floors(), self.group.turns())
        for call, told in ((self.group.factors, (1, 3, 2)), (self.group.orbit, 4), (self.group.leaving, [1, 4])):
            with self.assertRaises((NotThere, NoLetter)):
                call(told)
        self.assertEqual((self.group.makers(), self.group.base(), self.group.floors(), self.group.turns()), ahead)


if __name__ == "__main__":
    unittest.main()
