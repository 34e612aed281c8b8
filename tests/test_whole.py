"""Over the whole program: what its files tell of one problem is the same, and a turn changes it by just that turn."""

import inspect
import random
import unittest

import turnless.bench
import turnless.breaking
import turnless.desk
import turnless.judging
import turnless.kinds
import turnless.logtexts
import turnless.searching
import turnless.solving
from plainly import all_answers, answer_by, is_let_by, kind_of, kinds_by
from searching_plainly import shows_by
from turning import all_of, clause_by, fitting, goes, led, random_problem

from turnless.bench import Bench, bench_of
from turnless.breaking import broken, kept, left
from turnless.desk import answers_of
from turnless.finding import all_turns, alike, formed, shown
from turnless.groups import Group
from turnless.judging import lets_by
from turnless.kinds import by_unmoved, kinds, least, stayers, unmoved
from turnless.logtexts import log_text, read_log
from turnless.problems import Problem, answers
from turnless.problemtexts import problem_text, read_problem
from turnless.searching import searched, shows_search
from turnless.solving import WAYS, checked, forced, solved
from turnless.trees import shows_all
from turnless.turns import of_clause, of_part, then

KNOWN = [Problem(many, clauses) for many, clauses in [
    (1, []), (1, [[]]), (2, [[1, 2]]), (3, [[1, 2], [2, 3], [1, 3]]), (3, [[1, -2], [2, -3], [3, -1]]), (4, [[1, 2], [3, 4]]),
    (4, [[1, 2], [2, 3], [3, 4], [4, 1], [-1, -3], [-2, -4]]), (5, [[1, 2, 3, 4, 5], [-1, -2, -3, -4, -5]]),
    (6, [[1, 2], [3, 4], [5, 6], [-1, -3], [-1, -5], [-3, -5], [-2, -4], [-2, -6], [-4, -6]]),
]]


def some_problems(seed):
    chance = random.Random(seed)
    return KNOWN + [random_problem(chance, many) for many in (2, 3, 3, 4, 4, 4)]


class OneProblem(unittest.TestCase):
    def test_all_tell_the_same_of_it(self):
        for problem in some_problems(100):
            group, found = all_turns(problem), answers(problem)
            for way in WAYS:
                told = solved(problem, way=way)
                self.assertEqual(told[0], "yes" if found else "no")
                self.assertTrue(checked(problem, told))
            counted = kinds(problem, group)
            self.assertEqual(sum(counted.values()), len(found))
            self.assertEqual(len(counted), by_unmoved(problem, group, most=50000))
            self.assertEqual(left(problem, group.turns(most=50000)), list(counted))
            if group.size() <= 1000:
                self.assert_searched(problem, group, counted)
            self.assert_on_the_desk(problem, group, counted, found)

    def assert_searched(self, problem, group, counted):
        told = searched(problem, group)
        self.assertTrue(shows_search(problem, group, told))
        self.assertEqual(sorted(least(group, answer)[0] for answer in told["answers"]), list(counted))
        if problem.many < 5:
            self.assertTrue(shows_by(problem, fitting(problem), told))

    def assert_on_the_desk(self, problem, group, counted, found):
        head, *clauses = problem_text(problem).split("\n")[:-1]
        rows = [head] + ["put " + clause for clause in clauses] + ["group", "count", "kinds", "solve"]
        told = answers_of("".join(row + "\n" for row in rows)).split("\n")[:-1]
        self.assertEqual(told[:len(clauses) + 1], ["ok"] * (len(clauses) + 1))
        size, count, of_kinds, solve = told[-4:]
        self.assertEqual((size, count), (str(group.size()), str(len(found))))
        signs = ["".join(map(str, answer)) + f" {often}" for answer, often in counted.items()]
        self.assertEqual(of_kinds, "; ".join(signs) or "-")
        self.assertTrue(solve == "no" if not found else solve[:4] == "yes " and tuple(map(int, solve[4:])) in found)
        bench = Bench(problem.many, problem.clauses)
        self.assertEqual((bench.problem(), bench.group(), bench.kinds()), (problem, group, counted))
        self.assertEqual(bench_of(problem.many, bench.log()).problem(), problem)

    def test_what_is_counted_one_by_one(self):
        for problem in some_problems(101):
            if problem.many < 5:
                turns = fitting(problem)
                self.assertEqual(kinds(problem, all_turns(problem)), kinds_by(problem, turns))
                for answer in all_answers(problem):
                    own = stayers(all_turns(problem), answer)
                    self.assertEqual(own.size() * len(kind_of(answer, turns)), len(turns))

    def test_written_and_read_back(self):
        for problem in some_problems(102):
            again = read_problem(problem_text(problem))
            self.assertEqual(again, problem)
            self.assertEqual(all_turns(again), all_turns(problem))
            for way in WAYS:
                told = solved(problem, way=way)
                self.assertEqual(solved(again, way=way), told)
                if told[0] == "no":
                    log = read_log(log_text(told[1]))
                    self.assertEqual(log, told[1])
                    self.assertTrue(lets_by(again, log))
                    self.assertTrue(is_let_by(again, log))

    def test_asked_again_the_same_is_told(self):
        for problem in some_problems(103):
            group = all_turns(problem)
            turns = group.makers()
            calls = [lambda: kinds(problem, group), lambda: kept(problem, turns), lambda: left(problem, turns), lambda: forced(problem, ())]
            calls += [lambda: solved(problem, way="broken"), lambda: solved(problem, way="turned"), lambda: solved(problem)]
            calls += [lambda: searched(problem, Group(problem.many, turns[:1])), lambda: broken(problem, turns[:2]).clauses]
            for call in calls:
                self.assertEqual(repr(call()), repr(call()))


class TurnedProblems(unittest.TestCase):
    """A problem and what any turn makes of it tell the same but for that turn."""

    def test_each(self):
        chance = random.Random(104)
        for problem in some_problems(105):
            if problem.many > 4:
                continue
            group = all_turns(problem)
            for turn in chance.sample(all_of(problem.many), min(4, len(all_of(problem.many)))):
                other = led(turn, problem)
                self.assertEqual(sorted(answer_by(turn, answer) for answer in answers(problem)), answers(other))
                self.assertEqual((alike(problem, other)[0], formed(problem)[0]), ("alike", formed(other)[0]))
                self.assert_groups(group, all_turns(other), turn)
                self.assert_told_alike(problem, other, group, turn)

    def assert_groups(self, group, other, turn):
        self.assertEqual(group.size(), other.size())
        for one in group.turns(most=400):
            # First back, then by the one, then there again.
            self.assertTrue(other.has(tuple(goes(then(one, turn), self.letter_to(turn, k)) for k in range(1, len(turn) + 1))))

    def letter_to(self, turn, goal):
        return next(k for k in range(-len(turn), len(turn) + 1) if k and goes(turn, k) == goal)

    def assert_told_alike(self, problem, other, group, turn):
        kinds_there = kinds(other, all_turns(other))
        for answer, often in kinds(problem, group).items():
            first, _ = least(all_turns(other), answer_by(turn, answer))
            self.assertEqual(kinds_there[first], often)
            self.assertEqual(stayers(all_turns(other), answer_by(turn, answer)).size(), stayers(group, answer).size())
        for way in WAYS:
            self.assertEqual(solved(problem, way=way)[0], solved(other, way=way)[0])
        self.assertEqual(sum(unmoved(problem, one) for one in group.turns(most=400)),
                         sum(unmoved(other, one) for one in all_turns(other).turns(most=400)))
        for clause in problem.clauses[:4]:
            self.assertEqual(of_clause(turn, clause), clause_by(turn, clause))
            told, there = forced(problem, clause), forced(other, of_part(turn, clause))
            self.assertEqual(told[0], there[0])
            if told[0] == "open":
                self.assertEqual(sorted(of_part(turn, told[1]), key=abs), list(there[1]))

    def test_papers_of_groups(self):
        for problem in some_problems(106):
            group, paper = shown(problem)
            self.assertTrue(shows_all(problem, group, paper))
            if problem.many < 5:
                self.assertEqual(group.turns(), fitting(problem))


class Arguments(unittest.TestCase):
    def test_all_go_by_place_or_by_name_and_those_behind_a_star_by_name_alone(self):
        wanted = {
            turnless.breaking.lesser: "turn first | order", turnless.breaking.broken: "problem turns | order",
            turnless.breaking.left: "problem turns | order", turnless.breaking.kept: "problem turns | order",
            turnless.judging.Judge: "problem |", turnless.judging.Judge.read: "self step |", turnless.judging.Judge.read_all: "self log |",
            turnless.judging.lets_by: "problem log |", turnless.solving.solved: "problem | way group", turnless.solving.checked: "problem told |",
            turnless.solving.forced: "problem part |", turnless.kinds.least: "group answer |", turnless.kinds.kinds: "problem group |",
            turnless.kinds.unmoved: "problem turn |", turnless.kinds.by_unmoved: "problem group | most", turnless.kinds.stayers: "group answer |",
            turnless.searching.searched: "problem group | ask", turnless.searching.shows_search: "problem group told |",
            turnless.bench.Bench: "many clauses |", turnless.bench.Bench.put: "self clause |", turnless.bench.Bench.drop: "self clause |",
            turnless.bench.Bench.hold: "self letter |", turnless.bench.Bench.each: "self deeds | just", turnless.bench.bench_of: "many log |",
            turnless.logtexts.log_text: "log |", turnless.logtexts.read_log: "text |", turnless.desk.answers_of: "text |",
        }
        for call, names in wanted.items():
            told = inspect.signature(call).parameters.values()
            by_place = [one.name for one in told if one.kind is one.POSITIONAL_OR_KEYWORD]
            by_name = [one.name for one in told if one.kind is one.KEYWORD_ONLY]
            self.assertEqual(" ".join(by_place + ["|"] + by_name), names, call)
            self.assertEqual(len(told), len(by_place) + len(by_name))


if __name__ == "__main__":
    unittest.main()
