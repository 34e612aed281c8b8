"""Bench and bench_of: each deed and each refusal, against a second bench by the words of the document."""

import itertools
import random
import unittest

from plainly import as_clause, kinds_by
from things import Odd, no_lists, no_numbers, unlike_clauses
from turning import fitting, is_plain

from turnless.bench import Bench, bench_of
from turnless.errors import NoClause, NoDeed, NoLetter, NoProblem, NotThere, TooMany, Twice, TurnError
from turnless.finding import all_turns
from turnless.groups import Group
from turnless.kinds import kinds
from turnless.problems import Problem

# Things that make no clause of three truths.
NO_CLAUSES = [[1, -1], [-2, 1, 2], [0], [4], [-4], [1, 2, 400], [True], [1, True], [False], [1.0], ["1"], [None], [[1]], [(1,)], [1, Odd()],
              (1, -1), (0,), (4,), (True,)]


class PlainBench:
    """A bench that keeps all that stood ahead of each deed."""

    def __init__(self, many):
        self.many = many
        self.standing = []
        self.done = []
        self.taken_back = []
        self.eaches = 0

    def put(self, clause):
        self.do(("put", clause))

    def drop(self, clause):
        self.do(("drop", clause))

    def hold(self, letter):
        self.do(("hold", letter))

    def do(self, deed):
        made, standing = self.made(deed, list(self.standing))
        self.note(made, standing)

    def note(self, deed, standing):
        self.done.append((deed, self.standing))
        self.taken_back = []
        self.standing = standing

    def back(self):
        if not self.done:
            raise NoDeed(None)
        deed, ahead = self.done.pop()
        self.taken_back.append((deed, self.standing))
        self.standing = ahead

    def again(self):
        if not self.taken_back:
            raise NoDeed(None)
        deed, standing = self.taken_back.pop()
        self.done.append((deed, self.standing))
        self.standing = standing

    def each(self, deeds, just=False):
        self.eaches += 1
        self.refuse(deeds, (list, tuple))
        made, standing = self.all_made(deeds, list(self.standing))
        if not just:
            self.note(("each", made), standing)

    def refuse(self, deeds, wanted):
        if type(deeds) not in wanted:
            raise NoDeed(0)
        for at, deed in enumerate(deeds):
            if type(deed) is not tuple or len(deed) != 2 or type(deed[0]) is not str:
                raise NoDeed(at)
            if deed[0] not in ("put", "drop", "hold", "each") or (deed[0] == "each" and type(deed[1]) is not tuple):
                raise NoDeed(at)
            if deed[0] == "each":
                self.refuse(deed[1], (tuple,))

    def all_made(self, deeds, standing):
        made = []
        for deed in deeds:
            one, standing = self.made(deed, standing)
            made.append(one)
        return tuple(made), standing

    def made(self, deed, standing):
        word, thing = deed
        if word == "each":
            self.eaches += 1
            made, standing = self.all_made(thing, standing)
            return (word, made), standing
        if word == "hold":
            if not is_plain(thing) or not 1 <= abs(thing) <= self.many:
                raise NoLetter
            clause = (thing,)
        else:
            clause = self.clause_of(thing)
        if word == "drop":
            if clause not in standing:
                raise NotThere(0)
            return (word, clause), [other for other in standing if other != clause]
        if clause in standing:
            raise Twice
        if len(standing) == 400:
            raise TooMany
        return (word, thing if word == "hold" else clause), standing + [clause]

    def clause_of(self, thing):
        if type(thing) not in (list, tuple) or not all(is_plain(k) and 1 <= abs(k) <= self.many for k in thing):
            raise NoClause(0)
        clause = as_clause(thing)
        if clause is None:
            raise NoClause(0)
        return clause

    def log(self):
        return [deed for deed, _ in self.done]

    def told(self):
        return self.log(), (self.eaches, self.eaches), Problem(self.many, self.standing)


def told_of(bench):
    return bench.log(), bench.tries(), bench.problem()


def refusal_of(call):
    """The class and the place of what is refused; None and None of what isn't."""
    try:
        assert call() is None
    except TurnError as error:
        return type(error), getattr(error, "at", None)
    return None, None


class Case(unittest.TestCase):
    def assert_refused(self, error, at, bench, call):
        """That it is refused so and that all is as ahead, tries aside."""
        ahead, (begun, ended) = (bench.log(), bench.problem()), bench.tries()
        self.assertEqual(begun, ended)
        self.assertEqual(refusal_of(call), (error, at))
        self.assertEqual((bench.log(), bench.problem()), ahead)
        self.assertEqual(bench.tries()[0], bench.tries()[1])

    def assert_stands(self, bench, *clauses):
        self.assertEqual(bench.problem(), Problem(bench.problem().many, clauses))


def more_clauses(how_many):
    """So many clauses of four letters of twelve truths."""
    return [list(truths) for truths in itertools.combinations(range(1, 13), 4)][:how_many]


class New(Case):
    def test_of_a_new_bench(self):
        for bench in (Bench(3), Bench(3, []), Bench(3, ()), Bench(many=3, clauses=[])):
            self.assertEqual((bench.problem(), bench.log(), bench.tries()), (Problem(3), [], (0, 0)))
            self.assertEqual((type(bench.log()), type(bench.tries())), (list, tuple))
            self.assertEqual(bench.group(), all_turns(Problem(3)))
            self.assertEqual(list(bench.kinds().items()), [((0, 0, 0), 8)])
            self.assert_refused(NoDeed, None, bench, bench.back)
            self.assert_refused(NoDeed, None, bench, bench.again)

    def test_clauses_are_put_one_behind_the_other(self):
        bench = Bench(3, [[2, -1, 2], (3,), []])
        self.assertEqual(bench.log(), [("put", (-1, 2)), ("put", (3,)), ("put", ())])
        self.assertEqual(bench.tries(), (0, 0))
        self.assert_stands(bench, (-1, 2), (3,), ())
        bench.back()
        self.assert_stands(bench, (-1, 2), (3,))
        bench.back()
        bench.back()
        self.assert_refused(NoDeed, None, bench, bench.back)
        bench.again()
        self.assertEqual(bench.log(), [("put", (-1, 2))])

    def test_no_problem(self):
        for many in no_numbers() + [0, -1, 13, 14, 400, 10 ** 9, -10 ** 9]:
            self.assertRaises(NoProblem, Bench, many)
            self.assertRaises(NoProblem, Bench, many, 7)
            self.assertRaises(NoProblem, Bench, many, [[0]])
        self.assertEqual(Bench(1).problem(), Problem(1))
        self.assertEqual(Bench(12).problem(), Problem(12))

    def test_clauses_that_are_refused_as_put(self):
        for thing in NO_CLAUSES + no_lists():
            for clauses in ([thing], [[1], thing], [thing, [1], [1]], ([1], [2], thing, thing)):
                self.assertEqual(refusal_of(lambda: Bench(3, clauses)), (NoClause, 0))
        for thing in no_lists():
            self.assertEqual(refusal_of(lambda: Bench(3, thing)), (NoClause, 0))
        self.assertRaises(Twice, Bench, 3, [[1, 2], [3], [2, 1]])
        self.assertRaises(Twice, Bench, 3, [[1, 2], [2, 1, 1], [0]])
        self.assertEqual(len(Bench(12, unlike_clauses(12, 264) + more_clauses(136)).log()), 400)
        self.assertRaises(TooMany, Bench, 12, unlike_clauses(12, 264) + more_clauses(137))
        self.assertRaises(Twice, Bench, 12, unlike_clauses(12, 264) + more_clauses(136) + [[1, 2]])


class Deeds(Case):
    def setUp(self):
        self.bench = Bench(3, [[1, 2]])

    def test_put(self):
        self.assertIsNone(self.bench.put([3, -1]))
        self.assertIsNone(self.bench.put((2, 2, -3, 2)))
        self.assertIsNone(self.bench.put(clause=[]))
        self.assert_stands(self.bench, (1, 2), (-1, 3), (2, -3), ())
        self.assertEqual(self.bench.log()[1:], [("put", (-1, 3)), ("put", (2, -3)), ("put", ())])
        for thing in NO_CLAUSES + no_lists():
            self.assert_refused(NoClause, 0, self.bench, lambda: self.bench.put(thing))
        for thing in ([1, 2], (2, 1), [2, 1, 2], [], [-3, 2]):
            self.assert_refused(Twice, None, self.bench, lambda: self.bench.put(thing))

    def test_drop(self):
        for thing in NO_CLAUSES + no_lists():
            self.assert_refused(NoClause, 0, self.bench, lambda: self.bench.drop(thing))
        for thing in ([1], [], [1, 2, 3], (1, -2)):
            self.assert_refused(NotThere, 0, self.bench, lambda: self.bench.drop(thing))
        self.assertIsNone(self.bench.drop([2, 1, 2]))
        self.assert_refused(NotThere, 0, self.bench, lambda: self.bench.drop([1, 2]))
        self.assert_stands(self.bench)
        self.assertEqual(self.bench.log(), [("put", (1, 2)), ("drop", (1, 2))])
        self.bench.put([])
        self.assertIsNone(self.bench.drop(clause=()))
        self.assert_stands(self.bench)

    def test_hold(self):
        self.assertIsNone(self.bench.hold(-3))
        self.assertIsNone(self.bench.hold(letter=1))
        self.assert_stands(self.bench, (1, 2), (-3,), (1,))
        self.assertEqual(self.bench.log()[1:], [("hold", -3), ("hold", 1)])
        for thing in no_numbers() + [0, 4, -4, 10 ** 9, (1,), [1], Odd()]:
            self.assert_refused(NoLetter, None, self.bench, lambda: self.bench.hold(thing))
        self.assert_refused(Twice, None, self.bench, lambda: self.bench.hold(-3))
        self.assert_refused(Twice, None, self.bench, lambda: self.bench.put([-3]))
        self.bench.put([2])
        self.assert_refused(Twice, None, self.bench, lambda: self.bench.hold(2))
        self.bench.drop([-3])
        self.bench.hold(-3)

    def test_at_most_400_clauses(self):
        clauses = unlike_clauses(12, 264) + more_clauses(135)
        bench = Bench(12, clauses)
        bench.hold(1)
        for call in (lambda: bench.put([2, 3, 4, 5, 6]), lambda: bench.hold(2), lambda: bench.put([]), lambda: bench.each([("hold", 2)])):
            self.assert_refused(TooMany, None, bench, call)
        self.assert_refused(Twice, None, bench, lambda: bench.hold(1))
        self.assert_refused(NoClause, 0, bench, lambda: bench.put([13]))
        self.assert_refused(NoLetter, None, bench, lambda: bench.hold(13))
        # Within an each, too, each one is refused as it is by itself.
        self.assert_refused(TooMany, None, bench, lambda: bench.each([("hold", 2), ("drop", [1])]))
        bench.each([("drop", [1]), ("hold", 2)])
        self.assertEqual(len(bench.problem().clauses), 400)
        bench.drop([2])
        bench.put([])

    def test_what_is_handed_in_may_be_changed(self):
        clause, deeds = [3, 1], [("put", [2, -3]), ("each", (("drop", [1, 2]),))]
        self.bench.put(clause)
        self.bench.each(deeds)
        self.assertEqual((clause, deeds), ([3, 1], [("put", [2, -3]), ("each", (("drop", [1, 2]),))]))
        clause.append(2)
        deeds[0][1].append(1)
        deeds[1][1][0][1].append(3)
        deeds.clear()
        self.assert_stands(self.bench, (1, 3), (2, -3))
        self.assertEqual(self.bench.log()[1:], [("put", (1, 3)), ("each", (("put", (2, -3)), ("each", (("drop", (1, 2)),))))])
        self.bench.back()
        self.bench.again()
        self.assert_stands(self.bench, (1, 3), (2, -3))

    def test_the_told_are_the_askers_own(self):
        for _ in range(2):
            self.assertEqual(self.bench.log(), [("put", (1, 2))])
            self.assertEqual(self.bench.kinds(), {(0, 1, 0): 4, (1, 1, 0): 2})
            self.bench.log().clear()
            self.bench.kinds().clear()
        told = self.bench.log()
        self.bench.hold(3)
        self.assertEqual(told, [("put", (1, 2))])
        problem = self.bench.problem()
        self.bench.back()
        self.assertEqual(problem, Problem(3, [[1, 2], [3]]))

    def test_problem_group_and_kinds(self):
        for deed in (lambda bench: bench.hold(3), lambda bench: bench.put([-1, -2]), lambda bench: bench.drop([1, 2]), lambda bench: bench.back(),
                     lambda bench: bench.each([("put", [3, 2, 1]), ("drop", [3])]), lambda bench: bench.back(), lambda bench: bench.back()):
            deed(self.bench)
            problem, turns = self.bench.problem(), fitting(self.bench.problem())
            self.assertIs(type(problem), Problem)
            self.assertIs(type(self.bench.group()), Group)
            self.assertEqual(self.bench.group().turns(), turns)
            self.assertEqual(list(self.bench.kinds().items()), list(kinds_by(problem, turns).items()))


class BackAndAgain(Case):
    DEEDS = [
        lambda bench: bench.put([1, 3]), lambda bench: bench.hold(2), lambda bench: bench.drop([3, 1]), lambda bench: bench.each([]),
        lambda bench: bench.each([("put", [-3]), ("drop", [2]), ("each", (("hold", 3), ("drop", (3,)), ("put", [2, 3])))]),
        lambda bench: bench.put([]), lambda bench: bench.each([("drop", []), ("put", []), ("drop", [])]), lambda bench: bench.hold(-1),
    ]

    def test_all_the_way_there_and_back(self):
        bench = Bench(3, [[1, 2]])
        told = [(bench.log(), bench.problem())]
        for deed in self.DEEDS:
            self.assertIsNone(deed(bench))
            told.append((bench.log(), bench.problem()))
        self.assertEqual(len(bench.log()), len(self.DEEDS) + 1)
        tries = bench.tries()
        for _ in range(2):
            self.assert_refused(NoDeed, None, bench, bench.again)
            for wanted in told[-2::-1]:
                self.assertIsNone(bench.back())
                self.assertEqual((bench.log(), bench.problem()), wanted)
            for wanted in told[1:]:
                self.assertIsNone(bench.again())
                self.assertEqual((bench.log(), bench.problem()), wanted)
        self.assertEqual(bench.tries(), tries)
        for _ in told:
            bench.back()
        self.assertEqual((bench.log(), bench.problem()), ([], Problem(3)))
        self.assert_refused(NoDeed, None, bench, bench.back)

    def test_again_as_long_as_no_other_was_done(self):
        for deed in (lambda bench: bench.put([1]), lambda bench: bench.drop([1, 2]), lambda bench: bench.hold(1), lambda bench: bench.each([])):
            bench = Bench(3, [[1, 2], [3]])
            bench.hold(2)
            bench.back()
            bench.back()
            deed(bench)
            self.assert_refused(NoDeed, None, bench, bench.again)
            bench.back()
            bench.again()
            self.assertEqual(len(bench.log()), 2)
            self.assert_refused(NoDeed, None, bench, bench.again)

    def test_behind_what_was_refused_again_still_goes(self):
        for call, error, at in [
            (lambda bench: bench.put([1, 2]), Twice, None), (lambda bench: bench.put([0]), NoClause, 0), (lambda bench: bench.drop([3]), NotThere, 0),
            (lambda bench: bench.hold(9), NoLetter, None), (lambda bench: bench.each([("hold", 1), ("hold", 1)]), Twice, None),
            (lambda bench: bench.each(7), NoDeed, 0), (lambda bench: bench.each([("hold", 1)], just=True), None, None),
        ]:
            bench = Bench(3, [[1, 2], [3], [2]])
            bench.back()
            bench.back()
            self.assert_refused(error, at, bench, lambda: call(bench))
            bench.again()
            self.assertEqual(bench.log()[:2], [("put", (1, 2)), ("put", (3,))])
            bench.again()
            self.assert_stands(bench, (1, 2), (3,), (2,))

    def test_the_order_of_what_stands_within_a_deed(self):
        # A clause dropped and put again, and one put and dropped, are as ahead behind it and back.
        bench = Bench(2, [[1]])
        bench.each([("drop", [1]), ("put", [1]), ("drop", [1]), ("put", [2]), ("drop", [2]), ("put", [1, 2])])
        self.assert_stands(bench, (1, 2))
        bench.back()
        self.assert_stands(bench, (1,))
        bench.again()
        self.assert_stands(bench, (1, 2))


class Each(Case):
    def setUp(self):
        self.bench = Bench(3, [[1, 2]])

    def test_of_none(self):
        for deeds in ([], ()):
            self.assertIsNone(self.bench.each(deeds))
        self.assertEqual(self.bench.log()[1:], [("each", ()), ("each", ())])
        self.assertEqual(self.bench.tries(), (2, 2))

    def test_done_as_one_deed(self):
        self.bench.each([("put", [3, -2]), ("hold", 1), ("drop", (2, 1, 2)), ("each", ()), ("each", (("put", []), ("each", (("drop", []),))))])
        self.assertEqual(self.bench.log()[1:], [
            ("each", (("put", (-2, 3)), ("hold", 1), ("drop", (1, 2)), ("each", ()), ("each", (("put", ()), ("each", (("drop", ()),))))))])
        self.assert_stands(self.bench, (-2, 3), (1,))
        self.assertEqual(self.bench.tries(), (4, 4))
        self.bench.back()
        self.assert_stands(self.bench, (1, 2))
        self.assertEqual(self.bench.tries(), (4, 4))
        self.bench.again()
        self.assertEqual(self.bench.tries(), (4, 4))

    def test_by_name(self):
        self.assertIsNone(self.bench.each(deeds=(("hold", 1),), just=False))
        self.assertRaises(TypeError, self.bench.each, [], True)
        self.assert_stands(self.bench, (1, 2), (1,))

    def test_all_or_none(self):
        for deeds, error, at in [
            ([("hold", 1), ("hold", 1)], Twice, None), ([("hold", 1), ("drop", [2])], NotThere, 0), ([("drop", [1, 2]), ("hold", 4)], NoLetter, None),
            ([("put", [3]), ("put", [1, -1])], NoClause, 0), ([("put", [3]), ("drop", 7)], NoClause, 0),
            ([("each", (("hold", 1), ("drop", [1, 2]), ("each", (("put", [3]), ("put", [3])))))], Twice, None),
            ([("each", (("drop", [2, 1]),)), ("each", ()), ("drop", [2, 1])], NotThere, 0), ([("hold", 1), ("put", None), ("hold", 1)], NoClause, 0),
        ]:
            for just in (False, True):
                self.assert_refused(error, at, self.bench, lambda: self.bench.each(deeds, just=just))

    def test_just(self):
        for deeds in ([], [("hold", 1)], [("drop", [1, 2]), ("put", [3]), ("each", (("hold", -2),))]):
            self.assert_refused(None, None, self.bench, lambda: self.bench.each(deeds, just=True))
        self.assertEqual(self.bench.tries(), (4, 4))
        self.assertEqual(self.bench.log(), [("put", (1, 2))])
        self.bench.back()
        self.bench.each([("hold", 2)], just=True)
        self.bench.again()
        self.assert_refused(NoDeed, None, self.bench, self.bench.again)

    def test_no_deed(self):
        wrong = no_numbers() + [0, 1, "put", (), ("put",), ("put", [1], [2]), ("hold", 1, 2), ("each",), ("each", (), ()), ("back",), ("again",)]
        wrong += [["put", [1]], ("Put", [1]), ("put ", [1]), (b"put", [1]), (None, [1]), (Odd(), [1]), ([], [1]), ("learn", (1,)), ("", 1)]
        wrong += [("each", []), ("each", [("hold", 3)]), ("each", None), ("each", 7), ("each", {}), ("each", "hold"), ("each", iter(()))]
        right = [("hold", 1), ("hold", 2), ("hold", -1), ("hold", -2)]
        for thing in wrong:
            for at in range(4):
                deeds = right[:at] + [thing] + right[at:]
                for told in (deeds, tuple(deeds), deeds + [thing]):
                    self.assert_refused(NoDeed, at, self.bench, lambda: self.bench.each(told))
                # Within an each it is the place in its own list.
                inner = [("hold", 3), ("each", tuple(deeds))]
                self.assert_refused(NoDeed, at, self.bench, lambda: self.bench.each(inner))
                inner = [("each", (("each", ()), ("each", tuple(deeds)))), thing]
                self.assert_refused(NoDeed, at, self.bench, lambda: self.bench.each(inner))

    def test_no_list(self):
        for thing in no_lists():
            self.assert_refused(NoDeed, 0, self.bench, lambda: self.bench.each(thing))
            self.assert_refused(NoDeed, 0, self.bench, lambda: self.bench.each(thing, just=True))

    def test_no_deed_ahead_of_all_others(self):
        for deeds, at in [
            ([("hold", 9), ("hold", 1), 7], 2), ([("put", [0]), ("each", (("put", [1, 2]), ("each", 7)))], 1), ([("put", [1, 2]), ("back",)], 1),
            ([("drop", [3]), ("each", ((), ("hold", 9)))], 0), ([("each", (("hold", 9),)), ("each", (("hold", 1), ("hold",))), 7], 1),
            ([("each", (7,)), 7, 7], 0), ([("hold", 1), ("each", [7]), 7], 1),
        ]:
            self.assert_refused(NoDeed, at, self.bench, lambda: self.bench.each(deeds))

    def test_the_first_in_the_order_of_doing(self):
        # Of the inner one, that would be done ahead of the second.
        self.assert_refused(NoDeed, 2, self.bench, lambda: self.bench.each([("each", (("hold", 1), ("hold", 2), 7)), 7]))
        self.assert_refused(NoDeed, 0, self.bench, lambda: self.bench.each([7, ("each", (("hold", 1), ("hold", 2), 7))]))
        self.assert_refused(NoLetter, None, self.bench, lambda: self.bench.each([("each", (("hold", 9),)), ("put", [0])]))
        self.assert_refused(NoClause, 0, self.bench, lambda: self.bench.each([("put", [0]), ("each", (("hold", 9),))]))

    def test_tries(self):
        for deeds, more in [
            ([], 1), (7, 1), ([7], 1), ([("each", ())], 2), ([("each", (("each", ()), ("each", ())))], 4), ([("each", (7,))], 1),
            ([("each", ()), ("hold", 9), ("each", ())], 2), ([("each", (("each", (("hold", 9),)), ("each", ())))], 3), ([("hold", 9), ("each", ())], 1),
            ([("each", ()), 7], 1),
        ]:
            for just in (True, False):
                begun, ended = self.bench.tries()
                self.assertEqual(begun, ended)
                refusal_of(lambda: self.bench.each(deeds, just=just))
                self.assertEqual(self.bench.tries(), (begun + more, ended + more))
        tries = self.bench.tries()
        self.bench.hold(3)
        self.bench.back()
        self.bench.again()
        self.assertEqual(self.bench.tries(), tries)

    def test_twenty_deep(self):
        deed = ("hold", 3)
        for _ in range(19):
            deed = ("each", (deed,))
        self.bench.each([deed])
        self.assertEqual(self.bench.tries(), (20, 20))
        self.assertEqual(self.bench.log()[1:], [("each", (deed,))])
        self.assert_stands(self.bench, (1, 2), (3,))
        self.bench.back()
        self.assert_stands(self.bench, (1, 2))


class Twin(Case):
    def test_both_tell_alike_and_part_from_then_on(self):
        bench = Bench(3, [[1, 2]])
        bench.each([("hold", 3), ("each", ())])
        bench.put([-1, -2])
        bench.put([])
        bench.back()
        bench.back()
        twin = bench.twin()
        self.assertIs(type(twin), Bench)
        self.assertEqual(told_of(twin), told_of(bench))
        self.assertEqual((twin.group(), twin.kinds()), (bench.group(), bench.kinds()))
        ahead = told_of(bench)
        for _ in range(2):
            twin.again()
        self.assert_stands(twin, (1, 2), (3,), (-1, -2), ())
        self.assertEqual(told_of(bench), ahead)
        bench.back()
        bench.back()
        self.assert_stands(bench)
        self.assert_stands(twin, (1, 2), (3,), (-1, -2), ())
        for _ in range(4):
            twin.back()
            bench.again()
        self.assert_stands(twin)
        self.assert_stands(bench, (1, 2), (3,), (-1, -2), ())
        self.assertRaises(NoDeed, twin.back)
        self.assertRaises(NoDeed, bench.again)
        twin.each([])
        self.assertEqual((bench.tries(), twin.tries()), ((2, 2), (3, 3)))
        bench.put([1])
        twin.hold(1)
        self.assertEqual((len(bench.log()), len(twin.log())), (5, 2))


class BenchOf(Case):
    LOG = [("put", (1, 2)), ("hold", -3), ("each", (("drop", (1, 2)), ("each", (("put", ()),)))), ("each", ()), ("drop", ())]

    def test_log_and_bench_of_lead_to_one_another(self):
        for log in (self.LOG, tuple(self.LOG), []):
            bench = bench_of(3, log)
            self.assertIs(type(bench), Bench)
            self.assertEqual(bench.log(), list(log))
            self.assertEqual(bench_of(many=3, log=bench.log()).problem(), bench.problem())
        self.assert_stands(bench_of(3, self.LOG), (-3,))
        self.assertEqual(bench_of(3, self.LOG).tries(), (3, 3))

    def test_each_by_itself(self):
        bench = bench_of(3, self.LOG)
        for at in range(len(self.LOG) - 1, -1, -1):
            bench.back()
            self.assertEqual(bench.log(), self.LOG[:at])
            self.assertEqual(bench.problem(), bench_of(3, self.LOG[:at]).problem())
        bench.again()
        self.assert_stands(bench, (1, 2))

    def test_clauses_in_any_order(self):
        self.assertEqual(bench_of(3, [("put", [2, -1, 2]), ("drop", [2, -1])]).log(), [("put", (-1, 2)), ("drop", (-1, 2))])

    def test_refusals_in_order(self):
        for many in no_numbers() + [0, 13, -1]:
            self.assertEqual(refusal_of(lambda: bench_of(many, [7])), (NoProblem, None))
        for thing in no_lists():
            self.assertEqual(refusal_of(lambda: bench_of(3, thing)), (NoDeed, 0))
        for log, error, at in [
            ([("hold", 9), 7], NoDeed, 1), ([7], NoDeed, 0), ([("put", [0]), ("each", (("hold", 1), ("hold",)))], NoDeed, 1), ([("back",)], NoDeed, 0),
            ([("hold", 1), ("each", [])], NoDeed, 1), ([("hold", 1), ("hold", 1)], Twice, None), ([("hold", 9)], NoLetter, None),
            ([("put", [1, -1])], NoClause, 0), ([("drop", [1])], NotThere, 0), ([("each", (("hold", 2), ("hold", 2)))], Twice, None),
            ([("hold", 1), ["hold", 2]], NoDeed, 1), ([("put", 7)], NoClause, 0),
        ]:
            self.assertEqual(refusal_of(lambda: bench_of(3, log) and None), (error, at))

    def test_too_many(self):
        log = [("put", clause) for clause in unlike_clauses(12, 264) + more_clauses(137)]
        self.assertRaises(TooMany, bench_of, 12, log)
        self.assertEqual(len(bench_of(12, log[:-1]).log()), 400)


class Rows(Case):
    """Behind any row of deeds, taken back and done again, a bench tells what a new one tells that was told the same."""

    def test_against_a_second_bench(self):
        chance = random.Random(80)
        seen = {}
        for many in (1, 2, 2, 3, 3, 3, 4):
            for _ in range(6):
                bench, plain = Bench(many), PlainBench(many)
                for at in range(60):
                    call = self.some_call(chance, many)
                    told = refusal_of(lambda: call(bench))
                    self.assertEqual(told, refusal_of(lambda: call(plain)))
                    self.assertEqual(told_of(bench), plain.told())
                    seen[told] = seen.get(told, 0) + 1
                    if at % 4 == 3:
                        self.assert_like_a_new_one(bench)
        kinds_of_refusal = {error for error, _ in seen}
        self.assertEqual(kinds_of_refusal, {None, NoClause, NoLetter, NoDeed, NotThere, Twice})

    def assert_like_a_new_one(self, bench):
        many = bench.problem().many
        for other in (bench_of(many, bench.log()), bench.twin()):
            self.assertEqual((other.problem(), other.log()), (bench.problem(), bench.log()))
            self.assertEqual((other.group(), list(other.kinds().items())), (bench.group(), list(bench.kinds().items())))
        self.assertEqual(bench.kinds(), kinds(bench.problem(), all_turns(bench.problem())))

    def some_call(self, chance, many):
        word = chance.choice(("put", "put", "drop", "hold", "back", "back", "again", "again", "each", "each"))
        if word in ("back", "again"):
            return lambda bench: getattr(bench, word)()
        if word == "each":
            deeds, just = self.some_deeds(chance, many, 0), chance.random() < 0.3
            return lambda bench: bench.each(deeds, just=just)
        _, thing = self.some_deed(chance, many, word)
        return lambda bench: getattr(bench, word)(thing)

    def some_deeds(self, chance, many, depth):
        found = []
        for _ in range(chance.choice((0, 1, 1, 2, 3))):
            word = chance.choice(("put", "put", "drop", "hold", "each") if depth < 3 else ("put", "drop", "hold"))
            if word == "each":
                found.append((word, tuple(self.some_deeds(chance, many, depth + 1))))
            else:
                found.append(self.some_deed(chance, many, word))
            if chance.random() < 0.03:
                found.append(chance.choice((7, ("each", []), ("hold",), ("go", 1), None)))
        return found if depth > 0 or chance.random() < 0.95 else 7

    def some_deed(self, chance, many, word):
        if word == "hold":
            return word, chance.choice([k for k in range(-many, many + 1) if k] * 8 + [0, many + 1, True])
        size = chance.randint(0, min(2, many))
        truths = chance.sample(range(1, many + 1), size)
        clause = [truth * chance.choice((1, 1, -1)) for truth in truths]
        if chance.random() < 0.1:
            clause += clause
        if chance.random() < 0.06:
            clause.append(chance.choice((0, -clause[0] if clause else many + 1, True)))
        return word, clause if chance.random() < 0.5 else tuple(clause)


if __name__ == "__main__":
    unittest.main()
