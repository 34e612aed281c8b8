"""least, kinds, unmoved, by_unmoved and stayers, against trials of all answers and all turns."""

import itertools
import math
import random
import unittest

from plainly import all_answers, all_worths, answer_by, kind_of, kinds_by, some_groups
from things import Odd, no_numbers
from turning import M12, all_of, cycled, fitting, products, random_problem, random_turn

from turnless.errors import NoAnswer, NotThere, NoTurn, TooMany
from turnless.finding import all_turns
from turnless.groups import Group
from turnless.kinds import by_unmoved, kinds, least, stayers, unmoved
from turnless.problems import Problem, answers

ROUND = cycled(12, tuple(range(1, 13)))
SWAP = cycled(12, (1, 2))
OVER = (-1,) + tuple(range(2, 13))


class Trials(unittest.TestCase):
    @classmethod
    def setUpClass(cls):
        cls.some = [(problem, Group(problem.many, makers), products(problem.many, makers)) for problem, makers in some_groups(50)]

    def test_kinds(self):
        for problem, group, turns in self.some:
            told = kinds(problem, group)
            wanted = kinds_by(problem, turns)
            self.assertEqual((type(told), list(told.items())), (dict, list(wanted.items())))
            self.assertEqual(sum(told.values()), len(answers(problem)))

    def test_least(self):
        for problem, group, turns in self.some:
            for answer in all_worths(problem.many):
                told = least(group, answer)
                self.assertEqual((type(told), len(told)), (tuple, 2))
                self.assertEqual(told[0], min(kind_of(answer, turns)))
                self.assertIn(told[1], turns)
                self.assertEqual(answer_by(told[1], answer), told[0])
                self.assertEqual(least(group, answer), told)

    def test_unmoved(self):
        for problem, _, turns in self.some:
            for turn in turns[::max(1, len(turns) // 25)]:
                left = [answer for answer in all_answers(problem) if answer_by(turn, answer) == answer]
                self.assertEqual(unmoved(problem, turn), len(left))

    def test_as_many_kinds_as_unmoved_answers_tell(self):
        for problem, group, turns in self.some:
            self.assertEqual(by_unmoved(problem, group), len(kinds_by(problem, turns)))
            self.assertEqual(by_unmoved(problem, group) * len(turns), sum(unmoved(problem, turn) for turn in turns))

    def test_stayers(self):
        for problem, group, turns in self.some:
            for answer in all_worths(problem.many):
                told = stayers(group, answer)
                self.assertIs(type(told), Group)
                wanted = [turn for turn in turns if answer_by(turn, answer) == answer]
                self.assertEqual((told.truths(), told.turns()), (problem.many, wanted))
                self.assertEqual(told.size() * len(kind_of(answer, turns)), group.size())
                self.assertLessEqual(len(told.makers()), 60)
                self.assertEqual(products(problem.many, told.makers()), wanted)


class InFull(unittest.TestCase):
    def test_of_three_truths(self):
        group = Group(3, [(2, 3, 1)])
        self.assertEqual(list(kinds(Problem(3), group).items()), [((0, 0, 0), 1), ((0, 0, 1), 3), ((0, 1, 1), 3), ((1, 1, 1), 1)])
        self.assertEqual(least(group, (1, 1, 0)), ((0, 1, 1), (2, 3, 1)))
        self.assertEqual(least(group, (0, 0, 0))[0], (0, 0, 0))
        self.assertEqual([unmoved(Problem(3), turn) for turn in group.turns()], [8, 2, 2])
        self.assertEqual(by_unmoved(Problem(3), group), 4)
        self.assertEqual(stayers(group, (1, 1, 1)), group)
        self.assertEqual(stayers(group, (0, 1, 0)), Group(3))

    def test_a_turn_over_leaves_no_answer(self):
        self.assertEqual(unmoved(Problem(2), (-1, 2)), 0)
        self.assertEqual(unmoved(Problem(2), (-2, -1)), 2)
        self.assertEqual(unmoved(Problem(2), (2, -1)), 0)
        self.assertEqual(unmoved(Problem(2, [[1]]), (1, -2)), 0)
        self.assertEqual(unmoved(Problem(2, [[1]]), (1, 2)), 2)
        self.assertEqual(unmoved(Problem(2, [[]]), (2, 1)), 0)

    def test_no_answers(self):
        problem, group = Problem(3, [[]]), Group(3, [(2, 3, 1), (-1, 2, 3)])
        self.assertEqual((kinds(problem, group), by_unmoved(problem, group)), ({}, 0))

    def test_an_answer_of_no_problem_too(self):
        group = all_turns(Problem(2, [[1], [2]]))
        self.assertEqual(least(group, (1, 0))[0], (0, 1))
        self.assertEqual(stayers(group, (0, 0)).size(), 2)

    def test_by_name(self):
        problem, group = Problem(2, [[1, 2]]), Group(2, [(2, 1)])
        self.assertEqual(least(answer=(1, 0), group=group), ((0, 1), (2, 1)))
        self.assertEqual(kinds(group=group, problem=problem), {(0, 1): 2, (1, 1): 1})
        self.assertEqual(unmoved(turn=(2, 1), problem=problem), 1)
        self.assertEqual(by_unmoved(group=group, most=2, problem=problem), 2)
        self.assertEqual(stayers(answer=(1, 1), group=group), group)
        self.assertRaises(TypeError, by_unmoved, problem, group, 1000)

    def test_the_told_dict_is_the_askers_own(self):
        problem, group = Problem(2, [[1, 2]]), Group(2, [(2, 1)])
        for _ in range(2):
            told = kinds(problem, group)
            self.assertEqual(told, {(0, 1): 2, (1, 1): 1})
            told.clear()


class TwelveTruths(unittest.TestCase):
    """Groups of known sizes: how many so many truths are so, or not, by all exchanges and turns over."""

    def assert_counted(self, group, size, wanted):
        self.assertEqual(group.size(), size)
        told = kinds(Problem(12), group)
        self.assertEqual(list(told.items()), wanted)
        chance = random.Random(51)
        for answer in list(told) + [tuple(chance.choice((0, 1)) for _ in range(12)) for _ in range(4)]:
            first, turn = least(group, answer)
            own = stayers(group, answer)
            self.assertTrue(group.has(turn))
            self.assertEqual(answer_by(turn, answer), first)
            self.assertEqual(own.size() * told[first], size)
            self.assertTrue(all(group.has(maker) and answer_by(maker, answer) == answer for maker in own.makers()))
            self.assertLessEqual(len(own.makers()), 60)

    def test_all_exchanges(self):
        wanted = [((0,) * (12 - k) + (1,) * k, math.comb(12, k)) for k in range(13)]
        self.assert_counted(Group(12, [ROUND, SWAP]), math.factorial(12), wanted)

    def test_all_turns(self):
        self.assert_counted(Group(12, [ROUND, SWAP, OVER]), math.factorial(12) * 2 ** 12, [((0,) * 12, 4096)])

    def test_of_95040_turns(self):
        group = Group(12, M12)
        self.assertEqual(group.size(), 95040)
        told = kinds(Problem(12), group)
        # Five truths go to any five; of the sixes the 132 that are led to one another and the others.
        self.assertEqual(sorted(told.values()), sorted([math.comb(12, k) for k in range(13) if k != 6] + [132, 792]))
        for answer in told:
            self.assertEqual(stayers(group, answer).size() * told[answer], 95040)

    def test_turning_over_each(self):
        over = [tuple(-k if k == truth else k for k in range(1, 13)) for truth in range(1, 13)]
        self.assert_counted(Group(12, over), 4096, [((0,) * 12, 4096)])

    def test_rounds(self):
        group = Group(12, [ROUND])
        told = kinds(Problem(12), group)
        # Necklaces of twelve beads of two colours.
        self.assertEqual((len(told), by_unmoved(Problem(12), group)), (352, 352))
        self.assertEqual(len(kinds(Problem(12), Group(12, [ROUND, tuple(range(12, 0, -1))]))), 224)
        self.assertEqual(by_unmoved(Problem(12), Group(12, [ROUND, tuple(range(12, 0, -1))])), 224)

    def test_sixty_makers(self):
        chance = random.Random(52)
        group = Group(12, [random_turn(chance, 12) for _ in range(60)])
        answer = (0, 1) * 6
        self.assertEqual(stayers(group, answer).size() * kinds(Problem(12), group)[least(group, answer)[0]], group.size())

    def test_most(self):
        exchanges = Group(12, [cycled(12, (1, 2, 3, 4, 5, 6)), SWAP])
        self.assertEqual(exchanges.size(), 720)
        self.assertEqual(by_unmoved(Problem(12), exchanges), 7 * 64)
        self.assertEqual(by_unmoved(Problem(12), exchanges, most=720), 448)
        self.assertRaises(TooMany, by_unmoved, Problem(12), exchanges, most=719)
        more = Group(12, [cycled(12, (1, 2, 3, 4, 5, 6, 7)), SWAP])
        self.assertRaises(TooMany, by_unmoved, Problem(12), more)
        self.assertEqual(by_unmoved(Problem(12), more, most=5040), 8 * 32)

    def test_most_left_out_is_a_thousand(self):
        def over(truths):
            return [tuple(-k if k == truth else k for k in range(1, 13)) for truth in truths]

        five = [cycled(12, (1, 2, 3, 4, 5)), SWAP]
        lines = [cycled(12, (1, 2, 3, 4, 5, 6, 7)), cycled(12, (1, 2), (3, 6))]
        for makers, size, wanted in [
            (five + over([6, 7, 8]), 960, 6 * 16), (lines + [cycled(12, (8, 9, 10)), cycled(12, (8, 9))], 1008, 10 * 4 * 4),
            (over(range(1, 10)), 512, 8), (over(range(1, 11)), 1024, 4),
        ]:
            group = Group(12, makers)
            self.assertEqual(group.size(), size)
            self.assertEqual(by_unmoved(Problem(12), group, most=size), wanted)
            if size > 1000:
                self.assertRaises(TooMany, by_unmoved, Problem(12), group)
            else:
                self.assertEqual(by_unmoved(Problem(12), group), wanted)


class Refusals(unittest.TestCase):
    def test_more_than_twelve_truths_ahead_of_all(self):
        group, unfit = Group(12), Group(12, [SWAP])
        for problem in (Problem(13), Problem(400, [[]])):
            for some in (group, unfit):
                self.assertRaises(TooMany, kinds, problem, some)
                self.assertRaises(TooMany, by_unmoved, problem, some)
            for turn in (7, (1,), tuple(range(1, 14)), tuple(range(1, 401))):
                self.assertRaises(TooMany, unmoved, problem, turn)

    def test_a_group_beside_a_problem(self):
        problem = Problem(3, [[1, 2], [3]])
        for call in (kinds, by_unmoved):
            for many in (1, 2, 4, 12):
                with self.assertRaises(NotThere) as caught:
                    call(problem, Group(many))
                self.assertEqual(caught.exception.at, 0)
            fit = [(2, 1, 3)]
            for at, makers in enumerate([[(1, 3, 2)] + fit, fit + [(-1, 2, 3), (1, 2, -3)]]):
                with self.assertRaises(NotThere) as caught:
                    call(problem, Group(3, makers))
                self.assertEqual(caught.exception.at, at)
            self.assertTrue(call(problem, Group(3, fit)))

    def test_what_does_not_fit_ahead_of_a_greater_group(self):
        big = Group(12, [ROUND, SWAP])
        with self.assertRaises(NotThere) as caught:
            by_unmoved(Problem(12, [[1]]), big)
        self.assertEqual(caught.exception.at, 0)
        self.assertRaises(TooMany, by_unmoved, Problem(12), big)
        self.assertRaises(NotThere, by_unmoved, Problem(11), big, most=0)
        self.assertRaises(TooMany, by_unmoved, Problem(1), Group(1), most=0)

    def test_no_answer(self):
        group = Group(3, [(2, 3, 1)])
        things = no_numbers() + [0, 1, (0, 1), (0, 1, 0, 1), (0, 1, 2), (0, 1, -1), (True, 0, 1), (0, False, 1), (0, 1.0, 1), (0, "1", 1),
                                 [0, 1, 0], "010", b"010", {0: 1, 1: 1, 2: 1}, ((0, 1, 0),), (0, (1,), 0), (0, 1, None), (0, 1, Odd()), Odd()]
        for thing in things:
            with self.subTest(thing):
                self.assertRaises(NoAnswer, least, group, thing)
                self.assertRaises(NoAnswer, stayers, group, thing)
        self.assertRaises(NoAnswer, least, Group(1), (True,))
        self.assertRaises(NoAnswer, stayers, Group(12, M12), (0,) * 11)

    def test_unmoved_refuses_no_turn_then_what_does_not_fit(self):
        problem = Problem(3, [[1, 2], [3]])
        for thing in no_numbers() + [0, 1, (1, 2), (1, 2, 3, 4), (1, 2, 2), (1, 2, -2), (0, 1, 2), (1, 2, 4), [1, 2, 3], (True, 2, 3), Odd()]:
            self.assertRaises(NoTurn, unmoved, problem, thing)
        for turn in ((1, 3, 2), (-1, 2, 3), (1, 2, -3), (3, 2, 1)):
            with self.assertRaises(NotThere) as caught:
                unmoved(problem, turn)
            self.assertEqual(caught.exception.at, 0)
        self.assertEqual(unmoved(problem, (2, 1, 3)), 1)


class Turned(unittest.TestCase):
    def test_a_problem_and_what_a_turn_makes_of_it(self):
        chance = random.Random(53)
        for many in (2, 3, 4):
            problem = random_problem(chance, many)
            counted = sorted(kinds(problem, all_turns(problem)).values())
            for turn in chance.sample(all_of(many), 6):
                other = Problem(many, [[turn[abs(k) - 1] * (1 if k > 0 else -1) for k in clause] for clause in problem.clauses])
                self.assertEqual(sorted(kinds(other, all_turns(other)).values()), counted)

    def test_groups_of_all_turns_count_what_is_counted_one_by_one(self):
        for many in range(1, 5):
            pairs = [[one, other] for one, other in itertools.combinations(range(1, many + 1), 2)]
            problem = Problem(many, pairs)
            self.assertEqual(kinds(problem, all_turns(problem)), kinds_by(problem, fitting(problem)))


if __name__ == "__main__":
    unittest.main()
