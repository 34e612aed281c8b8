"""solved by each way and with groups, checked and forced, against trials of all answers and a second judge."""

import copy
import itertools
import random
import unittest

from plainly import all_answers, is_let_by, pushed
from things import Odd, no_lists, no_numbers
from turning import M12, all_clauses, all_of, changed, clause_by, fitting, products, random_problem

from turnless.errors import NoPart, NoWay, NotThere, TooMany
from turnless.finding import all_turns
from turnless.groups import Group
from turnless.judging import Judge, lets_by
from turnless.problems import Problem, is_answer
from turnless.solving import PLAIN, WAYS, checked, forced, solved


def guests(many, holes):
    """Guest by guest the holes in which he may be; none is in one with another."""
    clauses = [[guest * holes + hole for hole in range(1, holes + 1)] for guest in range(many)]
    for hole in range(1, holes + 1):
        for one, other in itertools.combinations(range(many), 2):
            clauses.append([-one * holes - hole, -other * holes - hole])
    return Problem(many * holes, clauses)


def sums(edges, odd):
    """Of each point the number of its edges that are so is even, but of those in odd: an edge is a truth."""
    clauses = []
    for point in sorted({point for edge in edges for point in edge}):
        truths = [at + 1 for at, edge in enumerate(edges) if point in edge]
        for signs in itertools.product((1, -1), repeat=len(truths)):
            # Where just those with a minus are so, the number of them would be wrong.
            if signs.count(-1) % 2 != (point in odd):
                clauses.append([truth * sign for truth, sign in zip(truths, signs)])
    return Problem(len(edges), clauses)


def led_round(many, makers, clauses):
    """The problem of all clauses to which products of the makers lead these."""
    found, left = set(clauses), list(clauses)
    while left:
        clause = left.pop()
        for maker in makers:
            if clause_by(maker, clause) not in found:
                found.add(clause_by(maker, clause))
                left.append(clause_by(maker, clause))
    return Problem(many, sorted(found))


SIXES = led_round(6, [(1, -4, -3, -2, -6, -5), (-4, -3, -2, -1, 5, 6)], [(-3, -4, -5), (-3, 4, -6), (-3, -4, -5, 6)])
SQUARES = [(one, other) for one, other in itertools.combinations(range(8), 2) if (one ^ other) in (1, 2, 4)]
ALL_SIGNS = [[truth * sign for truth, sign in zip(range(1, 6), signs)] for signs in itertools.product((1, -1), repeat=5)]

NO_ANSWER = [
    Problem(1, [[]]), Problem(1, [[1], [-1]]), Problem(3, [[], [1, 2]]), Problem(12, [[]]), Problem(2, [[1, 2], [1, -2], [-1, 2], [-1, -2]]),
    Problem(3, [[1, 2, 3], [-1, 2], [-2, 3], [-3, 1], [-1, -2, -3]]), guests(2, 1), guests(3, 2), guests(4, 3), Problem(5, ALL_SIGNS),
    Problem(12, ALL_SIGNS), sums([(0, 1), (1, 2), (2, 0)], [0]), sums(list(itertools.combinations(range(4), 2)), [1]), sums(SQUARES, [7]),
    Problem(12, [[k] for k in range(1, 13)] + [[-k for k in range(1, 13)]]), Problem(4, all_clauses(4)[1:]),
]
SOME_ANSWER = [
    (Problem(1), 2), (Problem(12), 4096), (Problem(1, [[-1]]), 1), (Problem(3, [[1], [-2], [3]]), 1), (guests(3, 3), 6),
    (Problem(5, ALL_SIGNS[:-1]), 1), (Problem(5, ALL_SIGNS[1:]), 1), (sums(SQUARES, [0, 7]), 32), (Problem(2, [[1, 2], [-1, -2]]), 2),
    (Problem(12, [[-k, k % 12 + 1] for k in range(1, 13)]), 2), (Problem(12, [[k, k + 1] for k in range(1, 12)]), 377),
]


class Case(unittest.TestCase):
    def assert_solved(self, problem, way, group=None):
        """That what is told is right, and of the form of the way; tells it."""
        told = solved(problem, way=way, group=group)
        makers = (all_turns(problem) if group is None else group).makers()
        self.assertEqual((type(told), len(told)), (tuple, 2))
        self.assertIs(checked(problem, told), True)
        if told[0] == "yes":
            self.assertTrue(is_answer(problem, told[1]))
            return told
        self.assertEqual(told[0], "no")
        self.assertIs(type(told[1]), list)
        self.assertIs(lets_by(problem, told[1]), True)
        words = [step[0] for step in told[1]]
        if way == "broken":
            self.assertEqual(told[1][:len(makers)], [("turn", maker) for maker in makers])
            self.assertLessEqual(set(words[len(makers):]), {"learn", "drop"})
        elif way == "turned":
            self.assertLessEqual(set(words), {"pure", "turned", "drop"})
            own = all_turns(problem) if group is None else group
            self.assertTrue(all(own.has(step[2]) for step in told[1] if step[0] == "turned"))
        else:
            self.assertLessEqual(set(words), {"pure", "drop"})
        return told


class Ways(Case):
    def test_names(self):
        self.assertEqual((PLAIN, WAYS), ("plain", ("plain", "broken", "turned")))
        self.assertIs(type(WAYS), tuple)

    def test_problems_without_an_answer(self):
        for problem in NO_ANSWER:
            for way in WAYS:
                word, log = self.assert_solved(problem, way)
                self.assertEqual(word, "no")
                self.assertEqual(is_let_by(problem, log), True)

    def test_problems_with_answers(self):
        for problem, how_many in SOME_ANSWER:
            self.assertEqual(len(all_answers(problem)), how_many)
            for way in WAYS:
                self.assertEqual(self.assert_solved(problem, way)[0], "yes")

    def test_with_groups(self):
        for problem in NO_ANSWER + [problem for problem, _ in SOME_ANSWER]:
            whole = all_turns(problem)
            groups = [whole, Group(problem.many), Group(problem.many, whole.makers()[:1]), Group(problem.many, whole.makers()[1:])]
            groups.append(whole.leaving([1]))
            for group in groups:
                for way in WAYS:
                    word, _ = self.assert_solved(problem, way, group)
                    self.assertEqual(word, "no" if problem in NO_ANSWER else "yes")

    def test_some_problems(self):
        chance = random.Random(40)
        words = []
        for _ in range(60):
            problem = random_problem(chance, chance.choice((2, 3, 3, 4, 4)))
            found = all_answers(problem)
            turns = fitting(problem)
            group = Group(problem.many, chance.sample(turns, min(2, len(turns))), base=[-problem.many])
            for way in WAYS:
                for some in (None, group):
                    word, told = self.assert_solved(problem, way, some)
                    words.append(word)
                    self.assertEqual(word, "yes" if found else "no")
                    self.assertTrue(told in found if found else is_let_by(problem, told))
        self.assertGreater(min(words.count("yes"), words.count("no")), 50)

    def test_some_problems_of_more_truths(self):
        chance = random.Random(41)
        words = []
        for many, size, how_many in [(8, 3, 40), (9, 3, 50), (10, 3, 60), (12, 3, 70), (12, 4, 200), (12, 5, 400), (11, 2, 30)] * 2:
            clauses = [[truth * chance.choice((1, -1)) for truth in chance.sample(range(1, many + 1), size)] for _ in range(how_many)]
            problem = Problem(many, clauses)
            found = all_answers(problem)
            for way in WAYS:
                word, _ = self.assert_solved(problem, way)
                words.append(word)
                self.assertEqual(word, "yes" if found else "no")
        self.assertEqual(set(words), {"yes", "no"})

    def test_the_ways_use_the_group(self):
        words = [step[0] for step in solved(guests(4, 3), way="turned")[1]]
        self.assertIn("turned", words)
        words = [step[0] for step in solved(guests(4, 3), way="broken")[1]]
        self.assertIn("turn", words)
        problem = sums(SQUARES, [7])
        self.assertLess(len(solved(problem, way="broken")[1]), len(solved(problem)[1]))

    def test_clauses_to_which_turns_lead_may_be_denied_by_what_was_decided(self):
        # In both some clause that is learned is led to one that denies what was decided ahead of it.
        for problem, word in [
            (SIXES, "no"), (led_round(12, [(-3, 7, 9, 12, 11, -1, 5, 8, 4, 6, -2, -10)],
                                      [(-6, -9, -10), (-5, -9, -10, -11), (-2, -5, 7, -9, -10, -11, 12)]), "yes"),
        ]:
            for way in WAYS:
                self.assertEqual(self.assert_solved(problem, way)[0], word)

    def test_no_clause_is_learned_that_stands(self):
        for problem, way in itertools.product(NO_ANSWER + [SIXES], WAYS):
            judge = Judge(problem)
            for step in solved(problem, way=way)[1]:
                standing = [clause for clause, _ in judge.standing()]
                judge.read(step)
                if step[0] in ("pure", "learn", "turned"):
                    self.assertNotIn(judge.standing()[-1][0], standing)

    def test_sixty_makers_of_twelve_truths(self):
        problem = Problem(12, [[k] for k in range(1, 13)] + [[-k for k in range(1, 13)]])
        exchanges = [tuple({one: other, other: one}.get(k, k) for k in range(1, 13))
                     for one, other in itertools.combinations(range(1, 13), 2)]
        group = Group(12, exchanges[:60])
        for way in WAYS:
            told = self.assert_solved(problem, way, group)
            self.assertEqual(told[0], "no")
            self.assertEqual([step[0] for step in told[1]].count("turn"), 60 if way == "broken" else 0)
        self.assert_solved(Problem(12), "broken", Group(12, M12))

    def test_left_out_it_is_plain_and_all_turns(self):
        for problem in NO_ANSWER[:9]:
            self.assertEqual(solved(problem), solved(problem, way=PLAIN))
            self.assertEqual(solved(problem), solved(problem, way="plain", group=None))
            for way in WAYS:
                self.assertEqual(solved(problem, way=way), solved(problem, way=way, group=all_turns(problem)))
        self.assertRaises(TypeError, solved, Problem(1), PLAIN)
        self.assertRaises(TypeError, solved, Problem(1), PLAIN, None)
        self.assertEqual(solved(group=Group(1), way="turned", problem=Problem(1, [[1]])), ("yes", (1,)))

    def test_the_told_log_is_the_askers_own(self):
        for way in WAYS:
            told = solved(guests(3, 2), way=way)
            again = copy.deepcopy(told)
            told[1].clear()
            self.assertEqual(solved(guests(3, 2), way=way), again)
        self.assertEqual(guests(3, 2), Problem(6, list(guests(3, 2).clauses)))


class Refusals(Case):
    def test_more_than_twelve_truths_ahead_of_all(self):
        for problem in (Problem(13), Problem(400, [[]])):
            self.assertRaises(TooMany, solved, problem)
            self.assertRaises(TooMany, solved, problem, way=7)
            self.assertRaises(TooMany, solved, problem, group=Group(12))
        self.assertEqual(solved(Problem(12, [[-k] for k in range(1, 13)])), ("yes", (0,) * 12))

    def test_no_way(self):
        for way in no_lists() + no_numbers() + ["Plain", "PLAIN", "plain ", "", "turn", "break", ["plain"], ("plain",), b"plain", 0]:
            with self.subTest(way):
                self.assertRaises(NoWay, solved, Problem(2, [[1]]), way=way)
                self.assertRaises(NoWay, solved, Problem(2, [[1]]), way=way, group=Group(3))
                self.assertRaises(NoWay, solved, Problem(2, [[1]]), way=way, group=Group(2, [(-1, 2)]))

    def test_a_group_of_unlike_many_truths(self):
        for way in WAYS:
            for many in (1, 3, 12):
                with self.assertRaises(NotThere) as caught:
                    solved(Problem(2, [[1, 2]]), way=way, group=Group(many, [(-1,) + tuple(range(2, many + 1))]))
                self.assertEqual(caught.exception.at, 0)

    def test_the_first_maker_that_does_not_fit(self):
        problem = Problem(3, [[1, 2], [3]])
        for way in WAYS:
            for at, makers in enumerate([[(1, 3, 2), (2, 1, 3)], [(2, 1, 3), (-1, 2, 3), (1, 2, -3)]]):
                with self.assertRaises(NotThere) as caught:
                    solved(problem, way=way, group=Group(3, makers))
                self.assertEqual(caught.exception.at, at)
            # Also where no turn is needed to see that there is no answer.
            self.assertEqual(solved(Problem(3, [[]]), way=way, group=Group(3, [(-1, 2, 3), (2, 3, 1)]))[0], "no")
            with self.assertRaises(NotThere) as caught:
                solved(Problem(3, [[], [1, 2]]), way=way, group=Group(3, [(2, 1, 3), (-1, 2, 3)]))
            self.assertEqual(caught.exception.at, 1)


class Checked(Case):
    PAIRS = [
        (Problem(2, [[1, 2]]), ("yes", (0, 1))), (Problem(3), ("yes", (1, 0, 1))), (Problem(1, [[]]), ("no", [])),
        (Problem(1, [[1], [-1]]), ("no", [("pure", ())])), (guests(2, 1), ("no", [("turn", (2, 1)), ("learn", ())])),
        (guests(3, 2), ("no", [("pure", (-1,)), ("turned", 0, (2, 1, 4, 3, 6, 5)), ("learn", ()), ("drop", (-2,))])),
    ]

    def test_right_pairs(self):
        for problem, told in self.PAIRS:
            self.assertIs(checked(problem, told), True)
            self.assertIs(checked(told=told, problem=problem), True)
        # A log is a list, where a tuple may be.
        self.assertIs(checked(guests(2, 1), ("no", (("pure", ()),))), True)

    def test_wrong_pairs(self):
        for problem, told in [
            (Problem(2, [[1, 2]]), ("yes", (0, 0))), (Problem(2, [[1, 2]]), ("yes", (0, 1, 1))), (Problem(2, [[1, 2]]), ("no", (0, 1))),
            (Problem(2, [[1, 2]]), ("no", [("pure", ())])), (Problem(2, [[1, 2]]), ("no", [])), (Problem(1, [[]]), ("yes", (0,))),
            (Problem(1, [[]]), ("yes", [])), (Problem(1), ("yes", (True,))), (Problem(1), ("yes", [0])), (Problem(1), ["yes", (0,)]),
            (Problem(1), ("yes", (0,), (0,))), (Problem(1), ("yes",)), (Problem(1), ("Yes", (0,))), (Problem(1), (b"yes", (0,))),
            (Problem(1, [[]]), ("no",)), (Problem(1, [[]]), ["no", []]), (Problem(1, [[]]), ("no", [], [])), (Problem(1, [[]]), ("no", {})),
            (Problem(1, [[]]), ("", [])), (Problem(1, [[]]), (None, [])), (Problem(1, [[]]), (Odd(), [])), (Problem(1, [[]]), ([], "no")),
        ]:
            self.assertIs(checked(problem, told), False, told)

    def test_of_anything(self):
        for problem, _ in self.PAIRS:
            for thing in no_lists() + no_numbers() + ["yes", "no", (), ("yes", "no")]:
                for told in (thing, ("yes", thing), ("no", thing), (thing, (1, 0, 1, 0))):
                    right = problem.clauses == ((),) and type(told) is tuple and len(told) == 2 and told[0] == "no"
                    right = right and type(told[0]) is str and type(told[1]) in (list, tuple) and len(told[1]) == 0
                    self.assertIs(checked(problem, told), right, told)

    def test_one_thing_changed_anywhere(self):
        for problem, (word, thing) in self.PAIRS[:2]:
            for told in changed((word, thing)):
                right = type(told) is tuple and len(told) == 2 and told[0] == "yes" and type(told[1]) is tuple
                right = right and all(type(worth) is int for worth in told[1]) and told[1] in all_answers(problem)
                self.assertIs(checked(problem, told), right, told)

    def test_more_than_twelve_truths(self):
        self.assertIs(checked(Problem(400, [[400]]), ("yes", (0,) * 399 + (1,))), True)
        self.assertIs(checked(Problem(400, [[400]]), ("yes", (0,) * 400)), False)
        self.assertIs(checked(Problem(400, [[400], [-400]]), ("no", [("pure", ())])), True)

    def test_what_is_handed_in_stays(self):
        told = ("no", [("pure", ())])
        checked(guests(2, 1), told)
        self.assertEqual(told, ("no", [("pure", ())]))


class Forced(Case):
    def test_in_full(self):
        chain = Problem(5, [[-1, 2], [-2, 3], [-3, -4], [4, 5]])
        for problem, part, wanted in [
            (chain, (1,), ("open", (1, 2, 3, -4, 5))), (chain, (), ("open", ())), (chain, (4,), ("open", (-1, -2, -3, 4))),
            (chain, (3,), ("open", (3, -4, 5))), (chain, (5, -1), ("open", (-1, 5))), (chain, (-5, 1), ("lost", (4, 5))),
            (Problem(3, [[2], [-2, 3]]), (), ("open", (2, 3))), (Problem(3, [[2], [-2, 3]]), (-1,), ("open", (-1, 2, 3))),
            (Problem(3, [[2], [-2, 3]]), (-2,), ("lost", (2,))), (Problem(1, [[]]), (), ("lost", ())), (Problem(2, [[]]), (1,), ("lost", ())),
            (Problem(2), (2, -1), ("open", (-1, 2))), (Problem(2, [[1, 2]]), (-2, -1), ("lost", (1, 2))),
            (Problem(3, [[1, 2, 3]]), (-3, -1), ("open", (-1, 2, -3))), (Problem(3, [[1, 2, 3]]), (-3, 1), ("open", (1, -3))),
        ]:
            if wanted[0] == "lost" and problem == chain:
                # Which clause is lost is open there: what came first tells.
                told = forced(problem, part)
                self.assertEqual(told[0], "lost")
                self.assertIn(told[1], chain.clauses)
            else:
                self.assertEqual(forced(problem, part), wanted)

    def test_all_parts_of_some_problems(self):
        chance = random.Random(42)
        words = []
        for many in (1, 2, 3, 3, 4, 4, 4):
            problem = random_problem(chance, many)
            for clause in all_clauses(many):
                for part in (clause, clause[::-1], tuple(chance.sample(clause, len(clause)))):
                    word, told = forced(problem, part)
                    words.append(word)
                    lost, so = pushed(problem.clauses, part)
                    self.assertEqual(word, "lost" if lost else "open")
                    if word == "open":
                        self.assertEqual(told, tuple(sorted(so, key=abs)))
                    else:
                        self.assertIn(told, problem.clauses)
                        self.assert_lost(problem, part, told)
        self.assertGreater(min(words.count("lost"), words.count("open")), 100)

    def assert_lost(self, problem, part, clause):
        """That a push comes to where all letters of this clause are denied: by the others it denies all, or all but one."""
        others = [other for other in problem.clauses if other != clause]
        lost, so = pushed(others, part)
        self.assertTrue(lost or all(-letter in so for letter in clause))

    def test_no_part(self):
        things = no_numbers() + [0, 1, [1, 2], [], (1, 1), (1, -1), (0,), (4,), (-4,), (True,), (1, 2.0), ((1,),), (1, None), "12", {1: 2},
                                 (1, 2, 3, 4), (2, 3, 2), (Odd(),), Odd()]
        for thing in things:
            if type(thing) is tuple and thing in ((), (1,)) and not any(worth is True for worth in thing):
                continue
            with self.subTest(thing):
                self.assertRaises(NoPart, forced, Problem(3, [[]]), thing)

    def test_400_truths(self):
        chain = Problem(400, [[-k, k + 1] for k in range(1, 400)])
        self.assertEqual(forced(chain, (1,)), ("open", tuple(range(1, 401))))
        self.assertEqual(forced(problem=chain, part=(-400,)), ("open", tuple(-k for k in range(1, 401))))
        self.assertEqual(forced(chain, (-400, 1))[0], "lost")
        self.assertEqual(forced(chain, (200, -150)), ("open", tuple(-k for k in range(1, 151)) + tuple(range(200, 401))))

    def test_letters_in_any_order(self):
        for part in itertools.permutations((3, -1, 2)):
            self.assertEqual(forced(Problem(3), part), ("open", (-1, 2, 3)))


class Turned(Case):
    def test_a_problem_and_what_a_turn_makes_of_it_have_an_answer_both(self):
        chance = random.Random(43)
        for many in (2, 3, 3):
            problem = random_problem(chance, many)
            for turn in chance.sample(all_of(many), 6):
                other = Problem(many, [[turn[abs(k) - 1] * (1 if k > 0 else -1) for k in clause] for clause in problem.clauses])
                for way in WAYS:
                    self.assertEqual(solved(problem, way=way)[0], solved(other, way=way)[0])
                self.assertEqual(len(products(many, all_turns(other).makers())), all_turns(problem).size())


if __name__ == "__main__":
    unittest.main()
