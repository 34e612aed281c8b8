"""What the tests know of orders, pushes, logs and kinds by themselves, by the words of the document."""

import itertools
import random

from turning import clause_by, fitting, goes, leads, random_problem, random_turn

from turnless.problems import Problem


def holds(letter, answer):
    return answer[abs(letter) - 1] == (1 if letter > 0 else 0)


def is_right(clauses, answer):
    return all(any(holds(letter, answer) for letter in clause) for clause in clauses)


def all_worths(many):
    return list(itertools.product((0, 1), repeat=many))


def all_answers(problem):
    return [answer for answer in all_worths(problem.many) if is_right(problem.clauses, answer)]


def answer_by(turn, answer):
    held = [goes(turn, k if worth else -k) for k, worth in enumerate(answer, 1)]
    return tuple(1 if k in held else 0 for k in range(1, len(answer) + 1))


def order_by(many, order):
    return list(range(1, many + 1)) if order is None else list(order)


def is_lesser(one, other, order):
    for letter in order:
        if holds(letter, one) != holds(letter, other):
            return holds(letter, other)
    return False


def is_least(answer, turns, order):
    return not any(is_lesser(answer_by(turn, answer), answer, order) for turn in turns)


def as_clause(letters):
    """The letters as a clause, None where there are k and -k."""
    if any(-letter in letters for letter in letters):
        return None
    return tuple(sorted(set(letters), key=abs))


def lesser_by(turn, first, order):
    many = len(turn)
    rows = [[first]]
    for i, letter in enumerate(order):
        hi = first + i
        behind_it = next(k for k in range(-many, many + 1) if k and goes(turn, k) == letter)
        rows.append([-hi, -letter, behind_it])
        if i < many - 1:
            rows.append([-hi, -letter, hi + 1])
            rows.append([-hi, behind_it, hi + 1])
    found = []
    for clause in map(as_clause, rows):
        if clause is not None and clause not in found:
            found.append(clause)
    return found


# Pushes and logs.


def pushed(clauses, letters):
    """All clauses that have all letters denied once no more is made so, and the letters that are so."""
    so = set(letters)
    while True:
        lost = [clause for clause in clauses if all(-letter in so for letter in clause)]
        made = set()
        for clause in clauses:
            free = [letter for letter in clause if -letter not in so]
            if len(free) == 1 and free[0] not in so:
                made.add(free[0])
        if lost or not made:
            return lost, so
        so |= made


def follows(clauses, clause):
    lost, _ = pushed(clauses, [-letter for letter in clause])
    return bool(lost)


class PlainJudge:
    """Reads steps that have the form of some, by the words of the document, with all looked up anew each time."""

    def __init__(self, problem):
        self.problem = problem
        self.pairs = []
        self.read = []
        self.truths = problem.many
        self.order = None

    def standing(self):
        return [(clause, True) for clause in self.problem.clauses] + self.pairs

    def ended(self):
        return any(clause == () for clause, _ in self.standing())

    def takes(self, step):
        return getattr(self, "takes_" + step[0])(*step[1:])

    def takes_order(self, letters):
        if any(word in ("order", "turn") for word, _ in self.read):
            return False
        self.order = letters
        return self.note("order", None)

    def takes_learn(self, clause):
        if not self.over(clause, self.truths) or not follows([other for other, _ in self.standing()], clause):
            return False
        self.pairs.append((clause, False))
        return self.note("learn", None)

    def takes_pure(self, clause):
        pure = [other for other, is_pure in self.standing() if is_pure]
        if not self.over(clause, self.problem.many) or not follows(pure, clause):
            return False
        self.pairs.append((clause, True))
        return self.note("pure", clause)

    def takes_turned(self, at, turn):
        if not leads(turn, self.problem, self.problem) or not 0 <= at < len(self.read):
            return False
        word, clause = self.read[at]
        if word not in ("pure", "turned"):
            return False
        self.pairs.append((clause_by(turn, clause), True))
        return self.note("turned", clause_by(turn, clause))

    def takes_turn(self, turn):
        if not leads(turn, self.problem, self.problem):
            return False
        order = order_by(self.problem.many, self.order)
        self.pairs += [(clause, False) for clause in lesser_by(turn, self.truths + 1, order)]
        self.truths += self.problem.many
        return self.note("turn", None)

    def takes_drop(self, clause):
        if not any(other == clause for other, _ in self.pairs):
            return False
        self.pairs = [pair for pair in self.pairs if pair[0] != clause]
        return self.note("drop", None)

    def over(self, clause, many):
        return all(abs(letter) <= many for letter in clause)

    def note(self, word, clause):
        self.read.append((word, clause))
        return True


def is_let_by(problem, log):
    judge = PlainJudge(problem)
    return all(judge.takes(step) for step in log) and judge.ended()


# Kinds.


def kind_of(answer, turns):
    return {answer_by(turn, answer) for turn in turns}


def kinds_by(problem, turns):
    """A rising dict from the least of each kind to how many of the problem's answers are of it."""
    found = {}
    for answer in all_answers(problem):
        kind = kind_of(answer, turns)
        if min(kind) == answer:
            found[answer] = len(kind)
    return found


def some_groups(seed):
    """Pairs of a problem and makers that fit it."""
    chance = random.Random(seed)
    found = [
        (Problem(1), []), (Problem(1), [(-1,)]), (Problem(1, [[1]]), []), (Problem(1, [[]]), [(-1,)]), (Problem(2), [(2, 1)]),
        (Problem(2), [(-1, 2)]), (Problem(2), [(2, -1)]), (Problem(2, [[1, 2]]), [(2, 1)]), (Problem(2, [[1], [-2]]), []),
        (Problem(3), []), (Problem(3), [(2, 3, 1)]), (Problem(3), [(-1, -2, -3)]), (Problem(3), [(2, 3, 1), (2, 1, 3), (-1, 2, 3)]),
        (Problem(3, [[1, 2, 3]]), [(2, 3, 1), (2, 1, 3)]), (Problem(3, [[1, 2], [-1, -2]]), [(2, 1, 3), (1, 2, -3)]),
        (Problem(4), [(2, 3, 4, -1)]), (Problem(4, [[1, 2], [3, 4]]), [(2, 1, 3, 4), (3, 4, 1, 2)]),
        (Problem(4, [[1, 2], [2, 3], [3, 4], [4, 1]]), [(2, 3, 4, 1), (4, 3, 2, 1)]),
        (Problem(5), [(2, 3, 4, 5, 1), (5, 4, 3, 2, 1)]), (Problem(5), [(2, 1, 3, 4, 5), (1, 2, 4, 5, 3)]),
        (Problem(5, [[1, 2, 3, 4, 5]]), [(2, 3, 4, 5, 1), (5, 4, 3, 2, 1)]),
    ]
    for many in (2, 3, 3, 4, 4, 4):
        problem = random_problem(chance, many)
        turns = fitting(problem)
        found.append((problem, chance.sample(turns, min(2, len(turns)))))
        found.append((problem, turns[:60]))
    for many in (3, 4, 4):
        found.append((Problem(many), [random_turn(chance, many) for _ in range(chance.randint(1, 3))]))
    return found
