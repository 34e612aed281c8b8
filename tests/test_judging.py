"""The judge: each step taken and refused, read_all, and lets_by, against a second judge by the words of the document."""

import copy
import itertools
import random
import unittest

from plainly import PlainJudge, all_answers, all_worths, follows, is_let_by, is_right, kind_of, lesser_by
from things import Odd, no_lists, no_numbers
from turning import all_clauses, changed, clause_by, fitting, products, random_problem, random_turn

from turnless.errors import NoLog, NoStep
from turnless.judging import Judge, lets_by
from turnless.problems import Problem

# No answer: of 1, 2 and 3 at least one is so, none is so with another, and not one alone.
NONE = Problem(3, [[1, 2, 3], [-1, 2], [-2, 3], [-3, 1], [-1, -2, -3]])
# Guests in fewer holes: truth 2g - 1 and 2g, that guest g is in the one or the other.
HOLES = Problem(6, [[1, 2], [3, 4], [5, 6]] + [
    [-(2 * one - hole), -(2 * other - hole)] for one, other in itertools.combinations((1, 2, 3), 2) for hole in (0, 1)])
LAST = ("pure", ())


def told_of(judge):
    return judge.standing(), judge.steps(), judge.truths(), judge.ended()


class Case(unittest.TestCase):
    def assert_read(self, judge, *steps):
        for step in steps:
            self.assertIs(judge.read(step), True, step)

    def assert_no_step(self, judge, *steps):
        for step in steps:
            ahead, tries = told_of(judge), judge.tries()
            with self.assertRaises(NoStep, msg=repr(step)):
                judge.read(step)
            self.assertEqual((told_of(judge), judge.tries()), (ahead, tries))

    def assert_no_log(self, at, judge, log):
        ahead, tries = told_of(judge), judge.tries()
        with self.assertRaises(NoLog) as caught:
            judge.read_all(log)
        self.assertEqual(caught.exception.at, at)
        self.assertEqual(told_of(judge), ahead)
        self.assertEqual(judge.tries(), (tries[0] + 1, tries[1] + 1))


class New(Case):
    def test_of_a_new_judge(self):
        problem = Problem(3, [[1, -2], [3]])
        judge = Judge(problem)
        self.assertEqual(judge.standing(), [((3,), True), ((1, -2), True)])
        self.assertEqual((judge.steps(), judge.truths(), judge.tries()), (0, 3, (0, 0)))
        self.assertIs(judge.ended(), False)
        self.assertEqual(told_of(Judge(problem=Problem(400))), ([], 0, 400, False))

    def test_of_the_empty_clause(self):
        judge = Judge(Problem(2, [[], [1]]))
        self.assertIs(judge.ended(), True)
        self.assertEqual(judge.standing(), [((), True), ((1,), True)])

    def test_the_told_list_is_the_askers_own(self):
        judge = Judge(NONE)
        for _ in range(2):
            told = judge.standing()
            self.assertIs(type(told), list)
            told.clear()
        self.assertEqual(len(judge.standing()), 5)
        self.assertIs(type(judge.tries()), tuple)

    def test_by_name(self):
        judge = Judge(NONE)
        self.assertIs(judge.read(step=("pure", (1,))), True)
        self.assertEqual(judge.read_all(log=[LAST]), 1)
        self.assertIs(lets_by(log=[("pure", (1,)), LAST], problem=NONE), True)


class LearnAndPure(Case):
    def test_what_follows_by_a_push(self):
        judge = Judge(Problem(4, [[1, 2], [-2, 3], [-3, 4]]))
        self.assert_no_step(judge, ("pure", (1,)), ("pure", (4,)), ("pure", ()), ("pure", (2, 4)), ("pure", (3, 4)))
        self.assert_read(judge, ("pure", (1, 4)), ("learn", (1, 3)), ("pure", (-2, 4)), ("learn", (1, 2, 3, 4)))
        self.assertEqual(judge.standing()[3:], [((1, 4), True), ((1, 3), False), ((-2, 4), True), ((1, 2, 3, 4), False)])
        self.assertEqual((judge.steps(), judge.truths()), (4, 4))

    def test_what_holds_but_takes_more_than_a_push(self):
        # 1 holds in all answers, but no letter is forced by denying it.
        judge = Judge(Problem(3, [[1, 2, 3], [1, 2, -3], [1, -2, 3], [1, -2, -3]]))
        self.assert_no_step(judge, ("pure", (1,)), ("learn", (1,)))
        self.assert_read(judge, ("pure", (1, 2)), ("learn", (1,)))
        judge = Judge(HOLES)
        self.assert_no_step(judge, LAST, ("learn", ()))
        self.assert_read(judge, ("pure", (-1,)), LAST)
        self.assertIs(judge.ended(), True)

    def test_a_clause_that_stands_follows_also_twice(self):
        judge = Judge(Problem(2, [[1, 2]]))
        self.assert_read(judge, ("pure", (1, 2)), ("learn", (1, 2)), ("pure", (1, 2)))
        self.assertEqual(judge.standing(), [((1, 2), True), ((1, 2), True), ((1, 2), False), ((1, 2), True)])

    def test_all_follows_where_the_empty_clause_stands(self):
        judge = Judge(Problem(2, [[]]))
        self.assert_read(judge, ("pure", (1,)), ("learn", (-1,)), ("pure", ()), ("learn", (1, -2)))
        self.assertEqual(judge.steps(), 4)

    def test_two_units(self):
        judge = Judge(Problem(2, [[1], [-1]]))
        self.assert_read(judge, ("pure", (2,)), ("pure", ()), ("pure", (-2,)))

    def test_pure_by_pure_ones_alone(self):
        judge = Judge(Problem(2))
        self.assert_read(judge, ("turn", (-1, 2)))
        # Helper 3 is so, and (-1, -3) stands.
        self.assert_read(judge, ("learn", (-1,)))
        self.assert_no_step(judge, ("pure", (-1,)), ("pure", (-1, 2)))
        self.assert_read(judge, ("learn", (-1, 2)))
        self.assert_no_step(judge, ("pure", (-1, 2)))
        self.assertEqual([pure for _, pure in judge.standing()], [False] * 5)

    def test_pure_by_pure_ones_that_stand(self):
        judge = Judge(Problem(3, [[1, 2, 3], [1, 2, -3], [1, -2, 3], [1, -2, -3]]))
        self.assert_read(judge, ("pure", (1, 2)), ("pure", (1,)), ("drop", (1,)), ("pure", (1,)), ("drop", (1, 2)),
                         ("drop", (1,)))
        self.assert_no_step(judge, ("pure", (1,)), ("learn", (1,)))

    def test_learned_by_what_was_learned(self):
        judge = Judge(Problem(3, [[1, 2, 3], [1, 2, -3], [1, -2, 3], [1, -2, -3]]))
        self.assert_read(judge, ("learn", (1, 2)))
        self.assert_no_step(judge, ("pure", (1,)))
        self.assert_read(judge, ("learn", (1,)))

    def test_truths(self):
        judge = Judge(Problem(2, [[]]))
        self.assert_no_step(judge, ("pure", (3,)), ("learn", (3,)), ("learn", (-3,)), ("pure", (1, 10 ** 9)))
        self.assert_read(judge, ("turn", (1, 2)))
        self.assert_no_step(judge, ("pure", (3,)), ("pure", (1, -4)), ("learn", (5,)))
        self.assert_read(judge, ("learn", (3,)), ("learn", (-1, 4)))
        self.assert_read(judge, ("turn", (1, 2)), ("learn", (-6,)))
        self.assert_no_step(judge, ("learn", (7,)))

    def test_what_is_no_clause(self):
        judge = Judge(Problem(3, [[]]))
        things = no_numbers() + [0, 1, (2, 1), (1, 1), (1, -1), (0,), (4,), (-4,), [1], [], (1, [2]), (True,), (1, True), (1, 2.0),
                                 ((1,),), (1, 2, 4), (1, 3, 2), "1", {1: True}, (Odd(),), Odd()]
        for thing in things:
            if type(thing) is tuple and thing in ((), (1,)):
                continue
            self.assert_no_step(judge, ("learn", thing), ("pure", thing), ("drop", thing))
        self.assert_read(judge, ("learn", (1,)))
        self.assert_no_step(judge, ("drop", (True,)), ("drop", (1.0,)), ("drop", [1]))


class Turned(Case):
    def test_of_each_kind_of_step(self):
        problem = Problem(3, [[1, 2], [2, 3], [1, 3]])
        judge = Judge(problem)
        self.assert_read(judge, ("learn", (1, 2, 3)), ("pure", (1, 2, -3)), ("turned", 1, (3, 1, 2)), ("turned", 2, (3, 1, 2)))
        self.assertEqual(judge.standing()[3:], [
            ((1, 2, 3), False), ((1, 2, -3), True), ((1, -2, 3), True), ((-1, 2, 3), True)])
        # Of a step that was learned, of a step behind, and of a number below the first.
        self.assert_no_step(judge, ("turned", 0, (3, 1, 2)), ("turned", 4, (3, 1, 2)), ("turned", -1, (3, 1, 2)))
        self.assert_read(judge, ("turn", (1, 2, 3)), ("drop", (1, -2, 3)))
        self.assert_no_step(judge, ("turned", 4, (3, 1, 2)), ("turned", 5, (3, 1, 2)), ("turned", 6, (3, 1, 2)))

    def test_of_an_order_step(self):
        judge = Judge(Problem(2, [[1]]))
        self.assert_read(judge, ("order", (1, 2)), ("pure", (1, 2)))
        self.assert_no_step(judge, ("turned", 0, (1, 2)))
        self.assert_read(judge, ("turned", 1, (1, -2)))

    def test_of_a_clause_that_was_dropped(self):
        judge = Judge(Problem(3, [[1, 2], [2, 3], [1, 3]]))
        self.assert_read(judge, ("pure", (1, 2, 3)), ("drop", (1, 2, 3)), ("turned", 0, (2, 1, 3)))
        self.assertEqual(judge.standing()[3:], [((1, 2, 3), True)])
        self.assert_read(judge, ("drop", (1, 2, 3)), ("turned", 2, (1, 3, 2)), ("turned", 4, (1, 2, 3)))
        self.assertEqual(judge.standing()[3:], [((1, 2, 3), True)] * 2)

    def test_it_stands_pure(self):
        judge = Judge(Problem(3, [[1, 2, 3], [1, 2, -3], [1, -2, 3], [1, -2, -3]]))
        self.assert_read(judge, ("pure", (1, 2)))
        self.assert_read(judge, ("turned", 0, (1, 3, 2)), ("drop", (1, 2)))
        self.assertEqual(judge.standing()[-1], ((1, 3), True))
        self.assert_read(judge, ("pure", (1,)))

    def test_which_turns(self):
        judge = Judge(Problem(3, [[1, 2], [3]]))
        self.assert_read(judge, ("pure", (1, 2, 3)))
        for thing in no_numbers() + [(1, 3, 2), (-1, 2, 3), (1, 2), (1, 2, 3, 4), (2, 1, 3.0), (2, True, 3), [2, 1, 3], (2, 1, -1)]:
            self.assert_no_step(judge, ("turned", 0, thing))
        self.assert_read(judge, ("turned", 0, (2, 1, 3)), ("turned", 1, (1, 2, 3)))

    def test_which_numbers(self):
        judge = Judge(Problem(2, [[1]]))
        self.assert_read(judge, ("pure", (1,)), ("pure", (1, 2)))
        for at in no_numbers() + [2, 3, -1, -2, 10 ** 9, -10 ** 9, (0,)]:
            self.assert_no_step(judge, ("turned", at, (1, -2)))
        self.assert_read(judge, ("turned", 1, (1, -2)), ("turned", 2, (1, -2)), ("turned", 0, (1, -2)))
        self.assertEqual(judge.standing()[3:], [((1, -2), True), ((1, 2), True), ((1,), True)])

    def test_steps_that_were_read_one_by_one_and_in_a_log(self):
        judge = Judge(Problem(2, [[1]]))
        self.assert_read(judge, ("pure", (1, 2)))
        self.assert_no_step(judge, ("pure", (2,)))
        self.assertEqual(judge.read_all([("learn", (1,)), ("pure", (1, -2))]), 2)
        self.assert_no_step(judge, ("turned", 1, (1, 2)))
        self.assert_read(judge, ("turned", 2, (1, 2)))
        self.assertEqual(judge.standing()[-1], ((1, -2), True))


class OrderAndTurn(Case):
    def test_order_twice_or_behind_a_turn_step(self):
        for first in (("order", (1, 2)), ("turn", (2, 1))):
            judge = Judge(Problem(2, [[1, 2]]))
            self.assert_read(judge, ("pure", (1, 2)), ("learn", (1, 2)), ("drop", (1, 2)), first)
            self.assert_no_step(judge, ("order", (1, 2)), ("order", (-2, 1)))
        self.assert_read(judge, ("turn", (2, 1)))
        judge = Judge(Problem(2, [[1, 2]]))
        # What was refused is no step.
        self.assert_no_step(judge, ("order", (1,)), ("turn", (-1, 2)), ("order", (1, 1)))
        self.assert_read(judge, ("order", (1, 2)), ("turn", (2, 1)), ("turn", (2, 1)))

    def test_what_is_no_order(self):
        judge = Judge(Problem(3))
        for thing in no_numbers() + [(1, 2), (1, 2, 3, 4), (1, 2, 2), (1, -1, 2), (1, 2, 0), (1, 2, 4), [1, 2, 3], (1, 2, True),
                                     (1, 2, 3.0), (1, 2, (3,)), "123", 123, Odd(), (1, 2, Odd())]:
            self.assert_no_step(judge, ("order", thing))
        judge = Judge(Problem(1))
        self.assert_no_step(judge, ("order", (True,)), ("order", [1]), ("order", ()), ("order", (1, 2)))
        self.assert_read(judge, ("order", (-1,)))

    def test_an_order_is_of_the_problems_truths_and_stands_for_all_turn_steps(self):
        problem = Problem(3, [[1, 2, 3]])
        judge = Judge(problem)
        self.assert_read(judge, ("order", (3, -1, 2)), ("turn", (2, 3, 1)), ("turn", (1, 3, 2)))
        wanted = lesser_by((2, 3, 1), 4, (3, -1, 2)) + lesser_by((1, 3, 2), 7, (3, -1, 2))
        self.assertEqual(judge.standing(), [((1, 2, 3), True)] + [(clause, False) for clause in wanted])
        self.assertEqual((judge.steps(), judge.truths()), (3, 9))

    def test_in_full(self):
        judge = Judge(Problem(2, [[1, 2]]))
        self.assert_read(judge, ("turn", (2, 1)))
        self.assertEqual(judge.standing(), [((1, 2), True)] + [
            (clause, False) for clause in ((3,), (-1, 2, -3), (-1, -3, 4), (2, -3, 4), (1, -2, -4))])
        self.assert_read(judge, ("turn", (1, 2)))
        self.assertEqual(judge.standing()[6:], [((5,), False), ((-1, -5, 6), False), ((1, -5, 6), False)])

    def test_which_turns(self):
        judge = Judge(Problem(3, [[1, 2], [3]]))
        for thing in no_numbers() + [(1, 3, 2), (-1, 2, 3), (1, 2), (1, 2, 3, 4), (2, 1, 3.0), (2, True, 3), [2, 1, 3], (2, 1, -1), ()]:
            self.assert_no_step(judge, ("turn", thing))
        self.assert_read(judge, ("turn", (2, 1, 3)), ("turn", (1, 2, 3)))

    def test_a_turn_that_equals_one_that_was_read_is_none(self):
        judge = Judge(Problem(1))
        self.assert_read(judge, ("turn", (1,)))
        self.assert_no_step(judge, ("turn", (True,)), ("turn", (1.0,)), ("turn", [1]))

    def test_helpers_beyond_400(self):
        many = 100
        turn = tuple(range(2, many + 1)) + (1,)
        judge = Judge(Problem(many))
        for at in range(6):
            self.assert_read(judge, ("turn", turn))
            self.assertEqual(judge.truths(), many * (at + 2))
            self.assertEqual(judge.standing()[-1][0][-1], -many * (at + 2))
        self.assertEqual(judge.standing()[-3 * many + 1:], [(clause, False) for clause in lesser_by(turn, 601, range(1, 101))])
        self.assert_read(judge, ("learn", (601,)))
        self.assert_no_step(judge, ("learn", (701,)))
        self.assertEqual(lets_by(Problem(400), [("turn", tuple(range(1, 401)))] * 2), False)

    def test_learned_by_turns(self):
        problem = Problem(3, [[1, 2, 3]])
        judge = Judge(problem)
        self.assert_read(judge, ("turn", (2, 1, 3)), ("learn", (-1, 2)))
        self.assert_no_step(judge, ("pure", (-1, 2)), ("learn", (-2, 3)))
        self.assert_read(judge, ("turn", (1, 3, 2)), ("learn", (-2, 3)), ("learn", (3,)))
        self.assertIs(judge.ended(), False)


class Drop(Case):
    def test_one_that_stands_by_steps(self):
        judge = Judge(Problem(2, [[1, 2]]))
        self.assert_no_step(judge, ("drop", (1, 2)), ("drop", ()), ("drop", (1,)))
        self.assert_read(judge, ("pure", (1, 2)), ("drop", (1, 2)))
        self.assertEqual(judge.standing(), [((1, 2), True)])
        self.assertEqual(judge.steps(), 2)
        self.assert_no_step(judge, ("drop", (1, 2)))

    def test_all_like_it_go_but_the_problems_own(self):
        judge = Judge(Problem(3, [[1, 2], [2, 3]]))
        self.assert_read(judge, ("learn", (1, 2)), ("pure", (1, 2, 3)), ("pure", (1, 2)), ("learn", (1, 2, 3)), ("learn", (2, 3)))
        self.assert_read(judge, ("drop", (1, 2)))
        self.assertEqual(judge.standing(), [
            ((1, 2), True), ((2, 3), True), ((1, 2, 3), True), ((1, 2, 3), False), ((2, 3), False)])
        self.assert_read(judge, ("pure", (1, 2)), ("drop", (1, 2, 3)))
        self.assertEqual(judge.standing(), [((1, 2), True), ((2, 3), True), ((2, 3), False), ((1, 2), True)])

    def test_the_problems_own_still_push(self):
        judge = Judge(Problem(2, [[1], [-1, 2]]))
        self.assert_read(judge, ("pure", (1,)), ("drop", (1,)), ("pure", (2,)))

    def test_clauses_of_turn_steps(self):
        judge = Judge(Problem(2, [[1, 2]]))
        self.assert_read(judge, ("turn", (2, 1)), ("learn", (3,)), ("drop", (3,)))
        self.assertEqual([clause for clause, _ in judge.standing()], [(1, 2), (-1, 2, -3), (-1, -3, 4), (2, -3, 4), (1, -2, -4)])
        self.assert_no_step(judge, ("drop", (3,)), ("learn", (-1, 2)), ("drop", (4,)))
        self.assertEqual(judge.truths(), 4)

    def test_what_was_dropped_pushes_no_more(self):
        judge = Judge(HOLES)
        self.assert_read(judge, ("pure", (-1,)), ("drop", (-1,)))
        self.assert_no_step(judge, LAST)
        self.assert_read(judge, ("learn", (-1,)), ("learn", (-1,)), ("drop", (-1,)))
        self.assert_no_step(judge, LAST, ("learn", ()))

    def test_one_that_stood_twice_pushes_no_more(self):
        for word, other in itertools.product(("pure", "learn"), repeat=2):
            judge = Judge(Problem(3, [[1, 2, 3], [1, 2, -3], [1, -2, 3], [1, -2, -3]]))
            self.assert_read(judge, (word, (1, 2)), (other, (1, 2)), ("drop", (1, 2)))
            self.assert_no_step(judge, ("learn", (1,)), ("pure", (1,)))

    def test_the_end_dropped(self):
        judge = Judge(HOLES)
        self.assert_read(judge, ("pure", (-1,)), LAST, ("learn", ()))
        self.assertIs(judge.ended(), True)
        self.assert_read(judge, ("drop", ()))
        self.assertIs(judge.ended(), False)
        self.assertEqual(judge.standing()[-1], ((-1,), True))
        own = Judge(Problem(1, [[]]))
        self.assert_read(own, LAST, ("drop", ()))
        self.assertIs(own.ended(), True)


class OfAnything(Case):
    STEPS = [
        ("order", (3, -1, 2)), ("turn", (2, 3, 1)), ("learn", (1, 2, 3)), ("pure", (1, 2, -3)), ("turned", 3, (2, 3, 1)),
        ("drop", (1, 2, 3)),
    ]

    def judge_ahead_of(self, at):
        judge = Judge(Problem(3, [[1, 2], [2, 3], [1, 3]]))
        self.assertEqual(judge.read_all(self.STEPS[:at]), at)
        return judge

    def test_no_step(self):
        judge = self.judge_ahead_of(6)
        steps = no_numbers() + [0, 1, Odd(), "pure", "learn (1, 2)", (), ("pure",), ("learn",), ("drop",), ("turn",), ("turned",)]
        steps += [("turned", 3), ("pure", (1, 2), 1), ("learn", (1, 2), ()), ("turn", (1, 2, 3), 0), ("drop", (1, 2, 3), 1)]
        steps += [("Pure", (1, 2)), ("pure ", (1, 2)), (b"pure", (1, 2)), (None, (1, 2)), ("", (1, 2)), ("put", (1, 2)), (("pure",), (1, 2))]
        steps += [["pure", (1, 2)], [("pure", (1, 2))], ("pure", [1, 2]), {"pure": (1, 2)}, ("turned", (1, 2, 3), 3), ("pure", 1, 2)]
        steps += [(Odd(), (1, 2)), ([], (1, 2)), ("each", ()), ("pure", (1, 2), None), (1, 2), ("turned", 3, (1, 2, 3), 1)]
        self.assert_no_step(judge, *steps)
        for at, step in enumerate(steps):
            self.assert_no_log(1, judge, [("pure", (1, 2)), step, step])
            self.assert_no_log(0, judge, [step])

    def test_one_thing_changed(self):
        for at, step in enumerate(self.STEPS):
            for thing in changed(step):
                judge = self.judge_ahead_of(at)
                plain = PlainJudge(Problem(3, [[1, 2], [2, 3], [1, 3]]))
                self.assertTrue(all(plain.takes(ahead) for ahead in self.STEPS[:at]))
                if self.has_form(thing) and plain.takes(thing):
                    self.assert_read(judge, thing)
                    self.assertEqual(judge.standing(), plain.standing())
                else:
                    self.assert_no_step(judge, thing)

    def has_form(self, step):
        """Whether it is a step by the kinds of all that stands in it."""
        if type(step) is not tuple or not step or type(step[0]) is not str:
            return False
        sizes = {"order": 2, "turn": 2, "learn": 2, "pure": 2, "turned": 3, "drop": 2}
        if sizes.get(step[0]) != len(step) or (step[0] == "turned" and type(step[1]) is not int):
            return False
        letters = step[-1]
        if type(letters) is not tuple or not all(type(letter) is int and letter != 0 for letter in letters):
            return False
        truths = [abs(letter) for letter in letters]
        if step[0] in ("learn", "pure", "drop"):
            return truths == sorted(set(truths))
        return sorted(truths) == [1, 2, 3]

    def test_no_log(self):
        judge = self.judge_ahead_of(3)
        for thing in no_lists():
            self.assert_no_log(0, judge, thing)
            self.assertIs(lets_by(HOLES, thing), False)
            self.assertIs(lets_by(Problem(1, [[]]), thing), False)
        for thing in no_numbers():
            if type(thing) in (list, tuple):
                continue
            self.assertIs(lets_by(HOLES, thing), False)
            self.assertIs(lets_by(Problem(1, [[]]), [thing]), False)


class ReadAll(Case):
    def test_all(self):
        judge = Judge(HOLES)
        log = [("pure", (-1,)), ("turned", 0, (2, 1, 4, 3, 6, 5)), LAST]
        self.assertEqual(judge.read_all(log), 3)
        self.assertEqual(judge.standing()[len(HOLES.clauses):], [((-1,), True), ((-2,), True), ((), True)])
        self.assertEqual(judge.read_all(()), 0)
        self.assertEqual(judge.read_all([]), 0)
        self.assertEqual(judge.read_all(tuple(log[1:])), 2)
        self.assertEqual((judge.steps(), judge.tries()), (5, (4, 4)))
        self.assertEqual(log, [("pure", (-1,)), ("turned", 0, (2, 1, 4, 3, 6, 5)), LAST])

    def test_what_was_read_ahead_stands_behind_a_log(self):
        for steps in ([("order", (2, -1, 3))], [("turn", (2, 3, 1))], [("order", (3, 1, 2)), ("turn", (2, 3, 1)), ("learn", (4,))]):
            for apart in (True, False):
                judge, plain = Judge(NONE), PlainJudge(NONE)
                for step in steps:
                    self.assertEqual(judge.read_all([step]) if apart else judge.read(step), 1)
                    plain.takes(step)
                self.assertEqual(judge.read_all([]), 0)
                self.assert_no_step(judge, ("order", (1, 2, 3)))
                for step in (("pure", (1,)), ("turn", (3, 1, 2)), ("turned", len(steps), (2, 3, 1)), ("learn", (plain.truths + 1,))):
                    self.assertEqual(judge.read_all([step]), 1)
                    plain.takes(step)
                self.assertEqual(told_of(judge), (plain.standing(), len(plain.read), plain.truths, False))

    def test_none_where_one_is_refused(self):
        steps = [("order", (2, 1, 3)), ("turn", (2, 3, 1)), ("pure", (1,)), ("learn", (4,)), ("turned", 2, (2, 3, 1)), ("drop", (4,)),
                 LAST]
        judge = Judge(NONE)
        for at in range(len(steps) + 1):
            self.assert_no_log(at, judge, steps[:at] + [("pure", (4,))] + steps[at:])
            self.assertEqual(told_of(judge), told_of(Judge(NONE)))
        self.assertEqual(judge.tries(), (8, 8))
        self.assertEqual(judge.read_all(steps), 7)
        self.assert_no_log(1, judge, [("drop", (1,)), ("drop", (1,)), LAST])
        self.assert_no_log(2, judge, [("drop", ()), ("turn", (1, 2, 3)), ("order", (1, 2, 3))])
        self.assert_no_log(0, judge, [("turned", 7, (1, 2, 3)), LAST])
        self.assert_no_log(2, judge, [LAST, ("turned", 7, (1, 2, 3)), ("turned", 9, (1, 2, 3))])
        self.assertEqual((judge.steps(), judge.truths(), judge.ended()), (7, 6, True))
        # And it goes on as if those had never been.
        self.assert_read(judge, ("drop", (1,)), ("turned", 2, (3, 1, 2)))
        self.assert_no_step(judge, ("order", (1, 2, 3)))

    def test_an_order_may_come_behind_a_log_that_was_refused(self):
        judge = Judge(NONE)
        self.assert_no_log(1, judge, [("order", (3, 2, 1)), ("order", (1, 2, 3))])
        self.assert_no_log(1, judge, [("turn", (2, 3, 1)), ("pure", (1, 1))])
        self.assert_read(judge, ("order", (-3, 2, 1)), ("turn", (2, 3, 1)))
        self.assertEqual([clause for clause, _ in judge.standing()[5:]], lesser_by((2, 3, 1), 4, (-3, 2, 1)))

    def test_what_was_told_ahead_stands_as_it_was(self):
        judge = Judge(HOLES)
        judge.read_all([("pure", (-1,))])
        standing = judge.standing()
        ahead = copy.deepcopy(standing)
        judge.read_all([LAST, ("drop", (-1,))])
        self.assertEqual(standing, ahead)

    def test_tries_count_those_refused_too(self):
        judge = Judge(NONE)
        for at, log in enumerate([[], 7, [7], [LAST], None, (), [("pure", (1,)), 7]]):
            try:
                judge.read_all(log)
            except NoLog:
                pass
            self.assertEqual(judge.tries(), (at + 1, at + 1))
        # What is read step by step counts as none.
        judge.read(("learn", (1,)))
        self.assertRaises(NoStep, judge.read, 7)
        self.assertEqual(judge.tries(), (7, 7))

    def test_a_log_may_be_changed_behind_the_call(self):
        judge = Judge(HOLES)
        log = [("pure", (-1,))]
        judge.read_all(log)
        log[0] = LAST
        self.assertEqual(judge.standing()[-1], ((-1,), True))


class LetsBy(Case):
    def test_to_the_end(self):
        for problem, log, right in [
            (HOLES, [("pure", (-1,)), LAST], True), (HOLES, (("pure", (-1,)), ("learn", ())), True), (HOLES, [("pure", (-1,))], False),
            (HOLES, [LAST], False), (HOLES, [], False), (HOLES, [("pure", (-1,)), LAST, ("drop", (-1,))], True),
            (HOLES, [("pure", (-1,)), LAST, ("drop", ())], False), (HOLES, [("pure", (-1,)), LAST, 7], False),
            (HOLES, [("turn", (2, 1, 4, 3, 6, 5)), ("learn", (-1,)), ("learn", ())], True),
            (NONE, [LAST], False), (NONE, [("pure", (1,)), LAST], True), (NONE, [("pure", (-1,)), LAST], True),
            (Problem(1, [[]]), [], True), (Problem(1, [[]]), (), True), (Problem(1, [[]]), [("pure", (1,)), ("drop", (1,))], True),
            (Problem(1, [[]]), [LAST, ("drop", ())], True), (Problem(1, [[1], [-1]]), [LAST], True), (Problem(1, [[1]]), [LAST], False),
            (Problem(1), [], False),
        ]:
            self.assertIs(lets_by(problem, log), right, (problem.clauses, log))

    def test_a_log_changed_anywhere(self):
        log = [("turn", (3, 4, 1, 2, 5, 6)), ("pure", (-1,)), ("turned", 1, (2, 1, 4, 3, 6, 5)), ("drop", (-1,)), LAST]
        self.assertIs(lets_by(HOLES, log), True)
        fit = {turn for turn in products(6, [(3, 4, 1, 2, 5, 6), (3, 4, 5, 6, 1, 2), (2, 1, 4, 3, 6, 5)])}
        wrong = 0
        for at, step in enumerate(log):
            self.assertIs(lets_by(HOLES, log[:at] + log[at + 1:]), is_let_by(HOLES, log[:at] + log[at + 1:]))
            for thing in changed(step):
                told = log[:at] + [thing] + log[at + 1:]
                right = self.plainly(told, fit)
                self.assertIs(lets_by(HOLES, told), right, told)
                wrong += not right
        self.assertGreater(wrong, 200)

    def plainly(self, log, fit):
        """Whether it is let by: what has not the form of a step is refused ahead of the plain judge."""
        return all(self.has_form(step, fit) for step in log) and is_let_by(HOLES, log)

    def has_form(self, step, fit):
        sizes = {"turn": 2, "learn": 2, "pure": 2, "turned": 3, "drop": 2}
        if type(step) is not tuple or not step or type(step[0]) is not str or sizes.get(step[0]) != len(step):
            return False
        letters = step[-1]
        if type(letters) is not tuple or not all(type(letter) is int for letter in letters):
            return False
        if step[0] in ("turn", "turned"):
            return letters in fit and type(step[1]) is (tuple if step[0] == "turn" else int)
        truths = [abs(letter) for letter in letters]
        return truths == sorted(set(truths)) and 0 not in truths


class Pushes(Case):
    def test_against_the_words(self):
        chance = random.Random(30)
        for many in (1, 2, 2, 3, 3, 3, 4, 4, 4, 4):
            problem = random_problem(chance, many)
            judge = Judge(problem)
            for clause in all_clauses(many):
                try:
                    judge.read(("learn", clause))
                    right = True
                except NoStep:
                    right = False
                self.assertIs(right, follows(problem.clauses, clause))
                if right:
                    judge.read(("drop", clause))

    def test_random_logs_against_a_second_judge(self):
        chance = random.Random(31)
        taken = {}
        for many in (1, 2, 2, 3, 3, 3, 3, 4, 4, 4, 4, 4):
            problem = random_problem(chance, many)
            turns = fitting(problem)
            judge, plain = Judge(problem), PlainJudge(problem)
            for _ in range(60):
                step = self.some_step(chance, plain, turns)
                if plain.takes(step):
                    self.assert_read(judge, step)
                    taken[step[0]] = taken.get(step[0], 0) + 1
                else:
                    self.assert_no_step(judge, step)
                self.assertEqual(told_of(judge), (plain.standing(), len(plain.read), plain.truths, plain.ended()))
        self.assertEqual(sorted(taken), ["drop", "learn", "order", "pure", "turn", "turned"])

    def some_step(self, chance, plain, turns):
        many = plain.problem.many
        word = chance.choice(("order", "learn", "learn", "learn", "pure", "pure", "pure", "turned", "turned", "turn", "drop"))
        turn = chance.choice(turns) if chance.random() < 0.8 else random_turn(chance, many)
        if word == "turned":
            return word, chance.randint(-1, len(plain.read)), turn
        if word == "turn" and plain.truths < many * 5:
            return word, turn
        if word == "order" and chance.random() < 0.3:
            return word, random_turn(chance, many)
        if word == "drop" and plain.pairs:
            return word, chance.choice(plain.standing())[0]
        truths = plain.truths if word == "learn" else many
        size = chance.randint(0, min(truths, 4))
        letters = sorted(chance.sample(range(1, truths + 1), size))
        return ("learn" if word == "learn" else "pure"), tuple(k * chance.choice((1, -1)) for k in letters)


class Sound(Case):
    """Of a problem with an answer no log is let by to the end, whoever wrote it."""

    def test_whatever_is_learned(self):
        chance = random.Random(32)
        learned = 0
        for many in (1, 2, 2, 2, 3, 3, 3, 3):
            problem = random_problem(chance, many)
            while not all_answers(problem):
                problem = random_problem(chance, many)
            turns = fitting(problem)
            judge = Judge(problem)
            if chance.random() < 0.5:
                judge.read(("order", random_turn(chance, many)))
            for turn in chance.sample(turns, min(2, len(turns))):
                judge.read(("turn", turn))
            # All that can be learned with up to three letters, as long as any can.
            for clause in [clause for clause in all_clauses(judge.truths()) if len(clause) < 4]:
                for word in ("pure", "learn"):
                    if (clause, word == "pure") not in judge.standing():
                        try:
                            learned += judge.read((word, clause))
                        except NoStep:
                            pass
            self.assertIs(judge.ended(), False)
            self.assert_sound(problem, turns, judge)
        self.assertGreater(learned, 100)

    def assert_sound(self, problem, turns, judge):
        pure = [clause for clause, is_pure in judge.standing() if is_pure]
        every = [clause for clause, _ in judge.standing()]
        helpers = judge.truths() - problem.many
        self.assertTrue(all(is_right(pure, answer) for answer in all_answers(problem)))
        good = {answer for answer in all_answers(problem)
                if any(is_right(every, answer + worths) for worths in all_worths(helpers))}
        for answer in all_answers(problem):
            self.assertTrue(good & kind_of(answer, turns))

    def test_two_orders_would_be_too_many(self):
        # By the one order the greater one of two answers goes, by the other one the lesser one.
        problem = Problem(1)
        self.assertTrue(is_right(lesser_by((-1,), 2, (1,)), (0, 1)))
        judge = Judge(problem)
        self.assert_read(judge, ("turn", (-1,)), ("learn", (-1,)))
        self.assert_no_step(judge, ("order", (-1,)), ("learn", ()), ("learn", (1,)))

    def test_turned_clauses_are_right_for_all_answers(self):
        chance = random.Random(33)
        for many in (3, 3, 4, 4):
            problem = random_problem(chance, many)
            turns = fitting(problem)
            judge = Judge(problem)
            at = []
            for clause in all_clauses(many):
                if follows(problem.clauses, clause):
                    judge.read(("pure", clause))
                    at.append((judge.steps() - 1, clause))
            for number, clause in chance.sample(at, min(6, len(at))):
                turn = chance.choice(turns)
                judge.read(("turned", number, turn))
                self.assertEqual(judge.standing()[-1], (clause_by(turn, clause), True))
            for answer in all_answers(problem):
                self.assertTrue(is_right([clause for clause, _ in judge.standing()], answer))


if __name__ == "__main__":
    unittest.main()
