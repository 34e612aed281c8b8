"""Problems, sets of clauses over a few truths, and their answers."""

from turnless.errors import NoClause, NoProblem, TooMany
from turnless.letters import clause_holds, clause_of, is_list, is_number, is_worths

MOST = 400

MOST_CLAUSES = 400


class Problem:
    """So many truths, and the unlike clauses over them, shorter ones first, then rising."""

    def __init__(self, many, clauses=()):
        if not is_number(many) or not 1 <= many <= MOST:
            raise NoProblem(f"a problem has from 1 to {MOST} truths")
        if not is_list(clauses):
            raise NoClause(0)
        found = _unlike_clauses(clauses, many)
        if len(found) > MOST_CLAUSES:
            raise TooMany(f"a problem has at most {MOST_CLAUSES} clauses")
        self.many = many
        self.clauses = tuple(sorted(found, key=_by_length))

    def __eq__(self, other):
        return isinstance(other, Problem) and self.many == other.many and self.clauses == other.clauses


def _unlike_clauses(things, many):
    """A list of the clauses that the things make, each once; refused with the first that makes none."""
    found = {}
    for at, thing in enumerate(things):
        clause = clause_of(thing, many)
        if clause is None:
            raise NoClause(at)
        found[clause] = True
    return list(found)


def _by_length(clause):
    return len(clause), clause


def is_answer(problem, thing):
    """Whether the thing, of any kind, is an answer of the problem."""
    if not is_worths(thing, problem.many):
        return False
    return all([clause_holds(clause, thing) for clause in problem.clauses])


def answers(problem, *, most=12):
    """The rising list of all answers; refused where there are more truths than most."""
    if problem.many > most:
        raise TooMany(f"there are more truths than {most}")
    way = _some_way(problem.clauses)
    starts = [] if way is None else [((), problem.clauses, way)]
    for truth in range(1, problem.many + 1):
        starts = [longer for start in starts for longer in _longer_starts(start, truth)]
    return [start[0] for start in starts]


def _longer_starts(start, truth):
    """The starts with this truth, too, that lead to an answer, not so ahead of so.

    A start is the worths of the first truths, the clauses that are left, and letters by which
    all of these hold. None leads nowhere, so no more starts are kept than there are answers.
    """
    worths, clauses, way = start
    found = []
    for worth, letter in ((0, -truth), (1, truth)):
        left = _once_so(clauses, letter)
        # A way that doesn't need the other sign is still one; only else another is looked for.
        way_on = _some_way(left) if -letter in way else way
        if way_on is not None:
            found.append((worths + (worth,), left, way_on))
    return found


def _some_way(clauses):
    """Some letters by which all the clauses hold, None where there are none."""
    nodes = [((), clauses)]
    while nodes:
        letters, left = nodes.pop()
        if not left:
            return letters
        for letter in _choices(min(left, key=len)):
            nodes.append((letters + (letter,), _once_so(left, letter)))
    return None


def _choices(clause):
    """The letters to try for a shortest clause: none, its only one, or both signs of one."""
    if len(clause) < 2:
        return clause
    return (-clause[0], clause[0])


def _once_so(clauses, letter):
    """What is left of the clauses once the letter is so."""
    return [_without(clause, -letter) for clause in clauses if letter not in clause]


def _without(clause, letter):
    if letter not in clause:
        return clause
    return tuple([other for other in clause if other != letter])
