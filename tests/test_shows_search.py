"""shows_search: of what searched tells, of other right trees, and with one thing changed anywhere."""

import copy
import random
import unittest

from searching_plainly import shows_by
from things import Odd, no_lists, no_numbers
from turning import changed, cycled, fitting, products, random_problem

from turnless.groups import Group
from turnless.problems import Problem
from turnless.searching import searched, shows_search

TOLD = [(Problem(many, clauses), makers) for many, clauses, makers in [
    (1, [], []), (1, [], [(-1,)]), (1, [[]], []), (1, [[1]], []), (1, [[1], [-1]], [(-1,)]), (2, [[1, 2]], [(2, 1)]),
    (2, [], [(-1, 2)]), (2, [], [(2, -1)]), (2, [[1, -2]], []), (3, [[1, 2], [3]], [(2, 1, 3)]), (3, [[1, 2, 3]], [(2, 3, 1)]),
]]


class Word(str):
    """Words of a kind of their own."""


def changed_told(told):
    """What a search told with one thing changed, each time another one."""
    for key in told:
        yield {other: told[other] for other in told if other != key}
        yield {(key.upper() if other == key else other): told[other] for other in told}
        yield {(key.encode() if other == key else other): told[other] for other in told}
        yield {(Word(key) if other == key else other): told[other] for other in told}
    for key in ("more", "asks", 1, None, ("ends",), ""):
        yield {**told, key: []}
    for nodes in [told["nodes"] + 1, told["nodes"] - 1, -told["nodes"], 0, 1, True, float(told["nodes"]), str(told["nodes"]), None, [], Odd()]:
        yield {**told, "nodes": nodes}
    for key in ("answers", "ends"):
        for thing in changed_list(told[key]):
            yield {**told, key: thing}
        for thing in [tuple(told[key]), {}, None, "", 0, dict.fromkeys(map(str, told[key])), iter(told[key]), Odd(), [told[key]]]:
            yield {**told, key: thing}


def changed_list(things):
    for at, thing in enumerate(things):
        yield things[:at] + things[at + 1:]
        yield things[:at] + [thing, thing] + things[at + 1:]
        for other in range(at):
            new = list(things)
            new[at], new[other] = new[other], new[at]
            yield new
        for new in changed(thing):
            yield things[:at] + [new] + things[at + 1:]
        yield things[:at] + [list(thing)] + things[at + 1:]
        for inner in range(len(thing)):
            if type(thing[inner]) is tuple:
                yield things[:at] + [thing[:inner] + (list(thing[inner]),) + thing[inner + 1:]] + things[at + 1:]
    for more in [(0,), ("answer", ()), ("answer", (1,)), ("lost", (), ()), None, [], ()]:
        yield things + [more]
        yield [more] + things
    yield []


class Shows(unittest.TestCase):
    def told_ones(self):
        chance = random.Random(70)
        for problem, makers in TOLD:
            yield problem, Group(problem.many, makers), products(problem.many, makers)
        for many in (2, 3, 3, 4):
            problem = random_problem(chance, many)
            turns = fitting(problem)[:60]
            yield problem, Group(many, turns), products(many, turns)

    def test_what_searched_tells(self):
        for problem, group, _ in self.told_ones():
            for ask in (None, lambda node: max(set(range(1, problem.many + 1)) - {abs(letter) for letter in node})):
                told = searched(problem, group, ask=ask)
                ahead = copy.deepcopy(told)
                self.assertIs(shows_search(problem, group, told), True)
                self.assertEqual(told, ahead)
                self.assertIs(shows_search(told=told, group=group, problem=problem), True)

    def test_one_thing_changed_anywhere(self):
        wrong = right = 0
        for problem, makers in TOLD:
            group, turns = Group(problem.many, makers), products(problem.many, makers)
            for thing in changed_told(searched(problem, group)):
                wanted = shows_by(problem, turns, thing)
                right += wanted
                wrong += not wanted
                self.assertIs(shows_search(problem, group, thing), wanted, (problem.clauses, thing))
        self.assertGreater(wrong, 5000)
        self.assertGreater(right, 20)

    def test_a_tuple_where_a_list_is(self):
        told = searched(Problem(2, [[1, 2]]), Group(2, [(2, 1)]))
        as_tuples = {"ends": tuple(told["ends"]), "answers": tuple(told["answers"]), "nodes": told["nodes"]}
        self.assertIs(shows_search(Problem(2, [[1, 2]]), Group(2, [(2, 1)]), as_tuples), True)

    def test_a_tree_that_could_be_cut_and_is_not(self):
        for problem, group, turns in self.told_ones():
            told = searched(problem, Group(problem.many))
            self.assertFalse(any(end[0] == "cut" for end in told["ends"]))
            self.assertIs(shows_search(problem, group, told), True)
            self.assertTrue(shows_by(problem, turns, told))

    def test_a_group_that_is_too_small_for_the_cuts(self):
        for problem, group, _ in self.told_ones():
            told = searched(problem, group)
            cut = any(end[0] == "cut" for end in told["ends"])
            self.assertIs(shows_search(problem, Group(problem.many), told), not cut)

    def test_another_problem(self):
        told = searched(Problem(2, [[1, 2]]), Group(2, [(2, 1)]))
        for clauses, right in [([[1, 2]], True), ([[1, 2], [-1, -2]], False), ([[1, -2], [-1, 2]], False), ([], False), ([[1], [2]], False)]:
            self.assertIs(shows_search(Problem(2, clauses), Group(2, [(2, 1)]), told), right)

    def test_a_lost_end_by_a_clause_of_the_problem(self):
        def told_by(clause):
            return {"answers": [(1,)], "nodes": 3, "ends": [("lost", (-1,), clause), ("answer", (1,))]}

        for clause, right in [((1,), True), ((-1,), False), ((), False), ((True,), False), ([1], False), ((1, 1), False), ((2,), False)]:
            self.assertIs(shows_search(Problem(1, [[1]]), Group(1), told_by(clause)), right)
        # One that is denied, but none of the problem's.
        self.assertIs(shows_search(Problem(2, [[1, 2]]), Group(2), {
            "answers": [(1, 0), (1, 1)], "nodes": 5, "ends": [("lost", (-1,), (1,)), ("answer", (1, -2)), ("answer", (1, 2))]}), False)
        # One of the problem's, that isn't denied whole.
        self.assertIs(shows_search(Problem(2, [[1, 2]]), Group(2), {
            "answers": [(1, 0), (1, 1)], "nodes": 5, "ends": [("lost", (-1,), (1, 2)), ("answer", (1, -2)), ("answer", (1, 2))]}), False)

    def test_nodes_below_lost_ones(self):
        told = {"answers": [(1, 0), (1, 1)], "nodes": 7, "ends": [
            ("lost", (-1, -2), (1,)), ("lost", (-1, 2), (1,)), ("answer", (1, -2)), ("answer", (1, 2))]}
        self.assertIs(shows_search(Problem(2, [[1]]), Group(2), told), True)

    def test_an_elder_whose_ends_come_later(self):
        problem, group = Problem(2), Group(2, [(-1, 2), (1, -2)])
        first, second = ("answer", (-1, -2)), ("answer", (-1, 2))
        for ends, right in [
            ([first, second, ("cut", (1,), (-1,), (-1, 2))], True),
            ([("cut", (-1,), (1,), (-1, 2)), ("answer", (1, -2)), ("answer", (1, 2))], False),
            ([("cut", (-1, -2), (-1, 2), (1, -2)), second, ("cut", (1,), (-1,), (-1, 2))], False),
            ([first, ("cut", (-1, 2), (-1, -2), (1, -2)), ("cut", (1,), (-1,), (-1, 2))], True),
            # Of an elder not all of whose ends came, of the node itself, of the first one, and of no node.
            ([first, ("cut", (-1, 2), (-1,), (1, 2)), ("cut", (1,), (-1,), (-1, 2))], False),
            ([first, ("cut", (-1, 2), (-1, 2), (1, 2)), ("cut", (1,), (-1,), (-1, 2))], False),
            ([first, ("cut", (-1, 2), (), (1, 2)), ("cut", (1,), (-1,), (-1, 2))], False),
            ([first, second, ("cut", (1,), (-2,), (2, 1))], False),
            # By turns that don't lead it there, or aren't of the group.
            ([first, second, ("cut", (1,), (-1,), (1, 2))], False), ([first, second, ("cut", (1,), (-1,), (1, -2))], False),
            ([first, second, ("cut", (1,), (-1,), (-1, -2))], True), ([first, second, ("cut", (1,), (-1,), (-1,))], False),
            ([first, second, ("cut", (1, -2), (-1, -2), (-1, 2)), ("cut", (1, 2), (-1, 2), (-1, 2))], True),
            ([first, second, ("cut", (1, -2), (-1, -2), (-1, 2)), ("cut", (1, 2), (1, -2), (1, -2))], True),
            ([first, second, ("cut", (1, -2), (-1, 2), (-1, -2)), ("answer", (1, 2))], True),
            ([first, second, ("cut", (1,), (-1, -2), (-1, 2))], False),
        ]:
            found = [tuple(1 if k in end[1] else 0 for k in (1, 2)) for end in ends if end[0] == "answer"]
            nodes = 2 * len(ends) - 1
            told = {"answers": found, "nodes": nodes, "ends": ends}
            self.assertIs(shows_search(problem, group, told), right, ends)
            self.assertIs(shows_by(problem, group.turns(), told), right)
        swapped = Group(2, [(2, 1)])
        told = {"answers": [(0, 0), (0, 1)], "nodes": 5, "ends": [first, second, ("cut", (1,), (-1,), (-1, 2))]}
        self.assertIs(shows_search(problem, swapped, told), False)

    def test_elders_have_their_letters_as_they_were_made(self):
        problem, group = Problem(2), Group(2, [(2, 1)])
        ends = [("answer", (-2, -1)), ("answer", (-2, 1)), ("cut", (2, -1), (-2, 1), (2, 1)), ("answer", (2, 1))]
        told = {"answers": [(0, 0), (1, 0), (1, 1)], "nodes": 7, "ends": ends}
        self.assertIs(shows_search(problem, group, told), True)
        told["ends"] = ends[:2] + [("cut", (2, -1), (1, -2), (2, 1))] + ends[3:]
        self.assertIs(shows_search(problem, group, told), False)
        told["ends"] = ends[:2] + [("cut", (-1, 2), (-2, 1), (2, 1))] + ends[3:]
        self.assertIs(shows_search(problem, group, told), False)

    def test_no_tree(self):
        problem, group = Problem(2), Group(2)
        whole = [("answer", node) for node in ((-1, -2), (-1, 2), (1, -2), (1, 2))]
        for nodes, right in [
            ([(-1, -2), (-1, 2), (1, -2), (1, 2)], True), ([(1, -2), (1, 2), (-1, -2), (-1, 2)], False),
            ([(-1, 2), (-1, -2), (1, -2), (1, 2)], False), ([(-1, -2), (-1, 2), (1, 2), (1, -2)], False),
            ([(-1, -2), (-1, 2), (1, -2)], False), ([(-1, -2), (-1, 2)], False), ([], False),
            ([(-1, -2), (-1, 2), (1, -2), (1, 2), (1, 2)], False), ([(-1, -2), (-1, 2), (-2, 1), (2, 1)], False),
            ([(-1, -2), (1, -2), (-1, 2), (1, 2)], False), ([(-1, -2), (-1, 2), (1, -2), (1, 2), (-1, -2)], False),
            ([(-2, -1), (-2, 1), (2, -1), (2, 1)], True), ([(-1, -1), (-1, 1), (1, -2), (1, 2)], False),
            ([(-1, -2), (-1, 2), (1, -2), (1, True)], False),
        ]:
            ends = [("answer", node) for node in nodes]
            told = {"answers": [tuple(1 if k in node else 0 for k in (1, 2)) for node in nodes], "nodes": 2 * len(nodes) - 1, "ends": ends}
            self.assertIs(shows_search(problem, group, told), right, nodes)
        right = {"answers": [(0, 0), (0, 1), (1, 0), (1, 1)], "nodes": 7, "ends": whole}
        self.assertIs(shows_search(problem, group, right), True)
        for answers in ([], [(0, 0)], [(0, 1), (0, 0), (1, 0), (1, 1)], [(0, 0), (0, 1), (1, 0), (1, True)], [[0, 0], (0, 1), (1, 0), (1, 1)],
                        [(0, 0), (0, 1), (1, 0), (1, 1), (1, 1)], [(0, 0), (0, 1), (1, 0), (1, 1.0)], [(0, 0), (0, 1), (1, 0), Odd()]):
            self.assertIs(shows_search(problem, group, {**right, "answers": answers}), False)

    def test_an_answer_that_is_none(self):
        problem = Problem(1, [[1]])
        told = {"answers": [(0,), (1,)], "nodes": 3, "ends": [("answer", (-1,)), ("answer", (1,))]}
        self.assertIs(shows_search(problem, Group(1), told), False)
        self.assertIs(shows_search(Problem(1), Group(1), told), True)
        self.assertIs(shows_search(problem, Group(1), {**told, "answers": [(1,)]}), False)
        self.assertIs(shows_search(Problem(1), Group(1), {"answers": [], "nodes": 1, "ends": [("answer", ())]}), False)
        told = {"answers": [()], "nodes": 1, "ends": [("answer", ())]}
        self.assertIs(shows_search(Problem(1), Group(1), told), False)
        told = {"answers": [(0, 0)], "nodes": 1, "ends": [("answer", ())]}
        self.assertIs(shows_search(Problem(2), Group(2), told), False)

    def test_groups_of_unlike_many_truths_and_that_do_not_fit(self):
        told = searched(Problem(2), Group(2))
        for many in (1, 3, 12):
            self.assertIs(shows_search(Problem(2), Group(many), told), False)
        self.assertIs(shows_search(Problem(13), Group(12), told), False)
        self.assertIs(shows_search(Problem(400), Group(1), told), False)
        told = searched(Problem(2, [[1]]), Group(2))
        for turn, right in [((1, -2), True), ((2, 1), False), ((-1, 2), False)]:
            self.assertIs(shows_search(Problem(2, [[1]]), Group(2, [turn]), told), right)

    def test_greater_groups_too(self):
        group = Group(7, [cycled(7, tuple(range(1, 8))), cycled(7, (1, 2))])
        self.assertEqual(group.size(), 5040)
        told = searched(Problem(7), Group(7, [cycled(7, tuple(range(1, 8)))]))
        self.assertIs(shows_search(Problem(7), group, told), True)

    def test_of_anything(self):
        for problem, makers in TOLD:
            group, turns = Group(problem.many, makers), products(problem.many, makers)
            for thing in no_lists() + no_numbers() + [[], {"answers": [], "nodes": 1, "ends": []}, list(searched(problem, group).items())]:
                self.assertIs(shows_search(problem, group, thing), False)
                for key in ("answers", "nodes", "ends"):
                    told = {**searched(problem, group), key: thing}
                    right = shows_by(problem, turns, told)
                    self.assertIs(shows_search(problem, group, told), right, told)
                    # An empty tuple may stand where an empty list does, and 1 where there is one node.
                    self.assertFalse(right and thing not in ([], (), 1))


if __name__ == "__main__":
    unittest.main()
