"""searched, against a search by the words of the document, with several rules of asking."""

import unittest

from plainly import all_answers, kinds_by, some_groups
from searching_plainly import is_led_into, least_truth, search_by, shows_by
from things import Odd, no_numbers
from turning import M12, cycled, products

from turnless.errors import NoAsk, NotThere, TooMany
from turnless.finding import all_turns
from turnless.groups import Group
from turnless.kinds import kinds, least
from turnless.problems import Problem
from turnless.searching import searched, shows_search


def greatest_truth(many):
    return lambda node: max(set(range(1, many + 1)) - {abs(letter) for letter in node})


def mixed_truth(many):
    """A rule by which unlike branches ask for unlike truths."""
    def ask(node):
        left = sorted(set(range(1, many + 1)) - {abs(letter) for letter in node})
        return left[sum(at * letter for at, letter in enumerate(node, 3)) % len(left)]
    return ask


RULES = [least_truth, greatest_truth, mixed_truth]


class Trials(unittest.TestCase):
    @classmethod
    def setUpClass(cls):
        cls.some = [(problem, Group(problem.many, makers), products(problem.many, makers)) for problem, makers in some_groups(60)]

    def test_ends_nodes_and_answers_in_order(self):
        words = []
        for problem, group, turns in self.some:
            for rule in RULES:
                told = searched(problem, group, ask=rule(problem.many))
                ends, found, nodes, _ = search_by(problem, turns, rule(problem.many))
                self.assertEqual((type(told), sorted(told)), (dict, ["answers", "ends", "nodes"]))
                self.assertEqual([end[:2] for end in told["ends"]], ends)
                self.assertEqual((told["answers"], told["nodes"]), (found, nodes))
                self.assertEqual((type(told["answers"]), type(told["ends"])), (list, list))
                self.assertTrue(shows_by(problem, turns, told))
                self.assertIs(shows_search(problem, group, told), True)
                words += [end[0] for end in told["ends"]]
        self.assertGreater(min(words.count("lost"), words.count("cut"), words.count("answer")), 100)

    def test_just_one_answer_of_each_kind(self):
        for problem, group, turns in self.some:
            wanted = list(kinds_by(problem, turns))
            for rule in RULES:
                told = searched(problem, group, ask=rule(problem.many))
                self.assertEqual(sorted(least(group, answer)[0] for answer in told["answers"]), wanted)
                self.assertLessEqual(set(told["answers"]), set(all_answers(problem)))

    def test_each_cut_is_shown_by_an_elder_node_and_a_turn(self):
        inner = 0
        for problem, group, turns in self.some:
            told = searched(problem, group)
            ended = []
            for end in told["ends"]:
                if end[0] == "cut":
                    _, node, elder, turn = end
                    self.assertIn(turn, turns)
                    self.assertTrue(is_led_into(turn, elder, node))
                    inner += elder not in ended
                ended.append(end[1])
        # Elders are ends, and also nodes all of whose ends came.
        self.assertGreater(inner, 20)

    def test_ask_is_asked_once_for_each_node_that_is_no_end(self):
        for problem, group, turns in self.some:
            for rule in RULES:
                asked = []

                def ask(node):
                    asked.append(node)
                    return rule(problem.many)(node)

                searched(problem, group, ask=ask)
                self.assertEqual(asked, search_by(problem, turns, rule(problem.many))[3])
                self.assertTrue(all(type(node) is tuple for node in asked))

    def test_left_out_it_is_the_least(self):
        for problem, group, _ in self.some:
            told = searched(problem, group, ask=least_truth(problem.many))
            self.assertEqual(searched(problem, group), told)
            self.assertEqual(searched(problem, group, ask=None), told)
            self.assertEqual(searched(problem, group), searched(group=group, problem=problem))
        self.assertRaises(TypeError, searched, Problem(1), Group(1), None)


class InFull(unittest.TestCase):
    def test_of_two_truths(self):
        told = searched(Problem(2, [[1, 2]]), Group(2, [(2, 1)]))
        self.assertEqual(told["answers"], [(0, 1), (1, 1)])
        self.assertEqual(told["nodes"], 7)
        # Both (-1) and (-1, 2) lead there.
        self.assertIn(told["ends"].pop(2), [("cut", (1, -2), elder, (2, 1)) for elder in ((-1,), (-1, 2))])
        self.assertEqual(told["ends"], [("lost", (-1, -2), (1, 2)), ("answer", (-1, 2)), ("answer", (1, 2))])

    def test_an_elder_that_was_no_end(self):
        # 1 turned over leads all from not so on to so.
        told = searched(Problem(2), Group(2, [(-1, 2)]))
        self.assertEqual(told["ends"], [("answer", (-1, -2)), ("answer", (-1, 2)), ("cut", (1,), (-1,), (-1, 2))])
        self.assertEqual((told["nodes"], told["answers"]), (5, [(0, 0), (0, 1)]))

    def test_an_elder_with_cut_ends(self):
        told = searched(Problem(2), Group(2, [(-1, 2), (1, -2)]))
        self.assertEqual(told["ends"], [
            ("answer", (-1, -2)), ("cut", (-1, 2), (-1, -2), (1, -2)), ("cut", (1,), (-1,), (-1, 2))])

    def test_an_end_at_once(self):
        self.assertEqual(searched(Problem(1, [[]]), Group(1, [(-1,)])), {"answers": [], "nodes": 1, "ends": [("lost", (), ())]})

    def test_lost_ahead_of_cut(self):
        # The elder (-1) is lost, and a turn leads it to (1), that is lost, too.
        told = searched(Problem(1, [[1], [-1]]), Group(1, [(-1,)]))
        self.assertEqual(told["ends"], [("lost", (-1,), (1,)), ("lost", (1,), (-1,))])

    def test_cut_ahead_of_answer(self):
        told = searched(Problem(1), Group(1, [(-1,)]))
        self.assertEqual(told["ends"], [("answer", (-1,)), ("cut", (1,), (-1,), (-1,))])

    def test_nodes_have_their_letters_as_they_were_made(self):
        told = searched(Problem(3), Group(3), ask=lambda node: 3 - len(node))
        self.assertEqual([end[1] for end in told["ends"]][:3], [(-3, -2, -1), (-3, -2, 1), (-3, 2, -1)])
        self.assertEqual(told["answers"][:3], [(0, 0, 0), (1, 0, 0), (0, 1, 0)])
        self.assertEqual(told["nodes"], 15)

    def test_unlike_branches_ask_for_unlike_truths(self):
        told = searched(Problem(2, [[1, 2]]), Group(2), ask=lambda node: {(): 2, (-2,): 1, (2,): 1}[node])
        self.assertEqual(told["ends"], [("lost", (-2, -1), (1, 2)), ("answer", (-2, 1)), ("answer", (2, -1)), ("answer", (2, 1))])


class Asking(unittest.TestCase):
    def test_no_ask(self):
        things = no_numbers() + [0, -1, -2, 4, -4, 10 ** 9, -10 ** 9, (2,), [2], "2", Odd()]
        for thing in things:
            with self.subTest(thing):
                self.assertRaises(NoAsk, searched, Problem(3), Group(3), ask=lambda node: thing)
                self.assertRaises(NoAsk, searched, Problem(3), Group(3), ask=lambda node: thing if node == (-1, 2) else len(node) + 1)

    def test_a_truth_that_stands_already(self):
        for first in (1, 2, 3):
            self.assertRaises(NoAsk, searched, Problem(3), Group(3), ask=lambda node: first)
            self.assertRaises(NoAsk, searched, Problem(3), Group(3), ask=lambda node: first if len(node) != 1 else first % 3 + 1)

    def test_it_is_not_asked_of_an_end(self):
        self.assertEqual(searched(Problem(2, [[]]), Group(2), ask=lambda node: 0)["nodes"], 1)
        told = searched(Problem(2, [[1]]), Group(2), ask=lambda node: {(): 1, (1,): 2}[node])
        self.assertEqual(told["nodes"], 5)

    def test_what_it_raises_comes_through(self):
        class Own(Exception):
            pass

        def ask(node):
            if len(node) == 2:
                raise Own("told")
            return len(node) + 1

        for error in (Own, KeyError, NotThere, StopIteration, RuntimeError, ValueError):
            def other(node):
                raise error(1)

            self.assertRaises(error, searched, Problem(3), Group(3), ask=other)
        with self.assertRaises(Own) as caught:
            searched(Problem(3), Group(3), ask=ask)
        self.assertEqual(str(caught.exception), "told")
        # And nothing stays behind it.
        self.assertEqual(searched(Problem(1), Group(1))["nodes"], 3)

    def test_it_may_search_itself(self):
        def ask(node):
            return searched(Problem(1), Group(1))["nodes"] - 2 + len(node)

        self.assertEqual(searched(Problem(3), Group(3), ask=ask), searched(Problem(3), Group(3)))


class TwelveTruths(unittest.TestCase):
    def assert_one_of_each(self, problem, group, how_many, ask=None):
        told = searched(problem, group, ask=ask)
        self.assertEqual(sorted(least(group, answer)[0] for answer in told["answers"]), list(kinds(problem, group)))
        self.assertEqual(len(told["answers"]), how_many)
        self.assertIs(shows_search(problem, group, told), True)
        return told

    def test_without_turns(self):
        told = self.assert_one_of_each(Problem(12), Group(12), 4096)
        self.assertEqual((told["nodes"], {end[0] for end in told["ends"]}), (8191, {"answer"}))

    def test_necklaces(self):
        group = Group(12, [cycled(12, tuple(range(1, 13)))])
        for rule in RULES:
            self.assert_one_of_each(Problem(12), group, 352, rule(12))

    def test_exchanges(self):
        group = Group(12, [cycled(12, (1, 2, 3, 4, 5, 6)), cycled(12, (1, 2))])
        for rule in RULES:
            self.assert_one_of_each(Problem(12), group, 7 * 64, rule(12))

    def test_all_turns_of_a_problem(self):
        problem = Problem(12, [[k, k + 1, k + 2] for k in range(1, 13, 3)])
        self.assertRaises(TooMany, searched, problem, all_turns(problem))
        problem = Problem(9, [[k, k + 1, k + 2] for k in range(1, 10, 3)])
        self.assertRaises(TooMany, searched, problem, all_turns(problem))
        problem = Problem(6, [[1, 2, 3], [4, 5, 6]])
        self.assertEqual(all_turns(problem).size(), 72)
        self.assert_one_of_each(problem, all_turns(problem), 6)

    def test_no_answers(self):
        problem = Problem(12, [[k] for k in range(1, 13)] + [[-12]])
        told = self.assert_one_of_each(problem, Group(12, [cycled(12, (1, 2, 3))]), 0)
        self.assertEqual(told["answers"], [])


class Refusals(unittest.TestCase):
    def test_more_than_twelve_truths_ahead_of_all(self):
        for problem in (Problem(13), Problem(400, [[]])):
            self.assertRaises(TooMany, searched, problem, Group(12))
            self.assertRaises(TooMany, searched, problem, Group(12, [cycled(12, (1, 2))]), ask=lambda node: 0)

    def test_a_group_beside_a_problem(self):
        problem = Problem(3, [[1, 2], [3]])
        for many in (1, 2, 4, 12):
            with self.assertRaises(NotThere) as caught:
                searched(problem, Group(many, M12 if many == 12 else []))
            self.assertEqual(caught.exception.at, 0)
        for at, makers in enumerate([[(1, 3, 2), (2, 1, 3)], [(2, 1, 3), (-1, 2, 3), (1, 2, -3)]]):
            with self.assertRaises(NotThere) as caught:
                searched(problem, Group(3, makers), ask=lambda node: 0)
            self.assertEqual(caught.exception.at, at)
        # Of a greater group, too, that comes first.
        with self.assertRaises(NotThere) as caught:
            searched(Problem(12, [[1]]), Group(12, M12))
        self.assertEqual(caught.exception.at, 0)

    def test_more_than_a_thousand_turns_ahead_of_no_ask(self):
        def over(truths):
            return [tuple(-k if k == truth else k for k in range(1, 13)) for truth in truths]

        lines = [cycled(12, (1, 2, 3, 4, 5, 6, 7)), cycled(12, (1, 2), (3, 6))]
        for makers, size in [(M12, 95040), (over(range(1, 11)), 1024), (lines + [cycled(12, (8, 9, 10)), cycled(12, (8, 9))], 1008)]:
            group = Group(12, makers)
            self.assertEqual(group.size(), size)
            self.assertRaises(TooMany, searched, Problem(12), group)
            self.assertRaises(TooMany, searched, Problem(12), group, ask=lambda node: 0)
        group = Group(12, [cycled(12, (1, 2, 3, 4, 5)), cycled(12, (1, 2))] + over([6, 7, 8]))
        self.assertEqual(group.size(), 960)
        self.assertRaises(NoAsk, searched, Problem(12), group, ask=lambda node: 0)
        self.assertEqual(len(searched(Problem(12), group)["answers"]), 6 * 16)


class Own(unittest.TestCase):
    def test_what_is_told_is_the_askers_own(self):
        problem, group = Problem(2, [[1, 2]]), Group(2, [(2, 1)])
        for _ in range(2):
            told = searched(problem, group)
            self.assertEqual((len(told["answers"]), len(told["ends"]), told["nodes"]), (2, 4, 7))
            told["answers"].clear()
            told["ends"].clear()
            told.clear()
        self.assertEqual((problem, group), (Problem(2, [[1, 2]]), Group(2, [(2, 1)])))


if __name__ == "__main__":
    unittest.main()
