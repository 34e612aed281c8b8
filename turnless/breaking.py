"""Clauses that break what is alike: of answers that turns lead to one another they leave the least, by an order."""

from turnless.errors import NoLetter, NoTurn, TooMany
from turnless.groups import MOST_TRUTHS
from turnless.letters import clause_of, is_list, worth_table
from turnless.problems import MOST, Problem, answers
from turnless.refusals import refuse_more, refuse_unfit
from turnless.turns import is_turn, led_back, refuse_no_turn, still, table_of


def lesser(turn, first, *, order=None):
    """The clauses that hold, for some worths of helpers from first on, where the turn leads to no lesser answer."""
    refuse_no_turn(turn)
    return lesser_clauses(turn, first, _letters_of(order, len(turn)))


def broken(problem, turns, *, order=None):
    """The problem with these clauses for each of the turns, helpers numbered on from its truths."""
    letters = _refused_alike(problem, turns, order)
    many = problem.many * (len(turns) + 1)
    if many > MOST:
        raise TooMany(f"there are more truths than {MOST}, with the helpers")
    clauses = list(problem.clauses)
    for at, turn in enumerate(turns, start=1):
        clauses.extend(lesser_clauses(turn, problem.many * at + 1, letters))
    return Problem(many, clauses)


def left(problem, turns, *, order=None):
    """The rising list of the answers that none of the turns leads to a lesser one."""
    refuse_more(problem, MOST_TRUTHS)
    rows = _rows_of(turns, _refused_alike(problem, turns, order))
    return [answer for answer in answers(problem) if _is_least(answer, rows)]


def kept(problem, turns, *, order=None):
    """From each answer the places of turns by which it comes to one that is left, each time to a lesser one."""
    refuse_more(problem, MOST_TRUTHS)
    rows = _rows_of(turns, _refused_alike(problem, turns, order))
    steps = {answer: _step_from(answer, turns, rows) for answer in answers(problem)}
    return {answer: _places_from(answer, steps) for answer in steps}


def is_order(thing, many):
    """Whether the thing, of any kind, is a list of letters, one of each of so many truths."""
    return is_list(thing) and is_turn(tuple(thing), many)


def lesser_clauses(turn, first, letters):
    """What lesser tells of a turn and the letters of an order, that are known to be some."""
    ways_back = table_of(led_back(turn))
    last = first + len(letters) - 1
    rows = [(first,)]
    for helper, letter in enumerate(letters, start=first):
        behind = ways_back[letter]
        rows.append((-helper, -letter, behind))
        if helper < last:
            rows.append((-helper, -letter, helper + 1))
            rows.append((-helper, behind, helper + 1))
    clauses = {clause_of(row, last): True for row in rows}
    # Of a row with k and -k there is no clause; it holds anyway.
    return [clause for clause in clauses if clause is not None]


def _letters_of(order, many):
    """The letters of an order, be it None."""
    if order is None:
        return still(many)
    if not is_order(order, many):
        raise NoLetter("this is no order")
    return tuple(order)


def _refused_alike(problem, turns, order):
    """The letters of the order, once all is refused that broken, left and kept refuse alike."""
    if not is_list(turns) or not all([is_turn(turn, problem.many) for turn in turns]):
        raise NoTurn("one of these is no turn of so many truths")
    refuse_unfit(problem, turns)
    return _letters_of(order, problem.many)


def _rows_of(turns, letters):
    """For each turn, in the order's order, the letters to which others go, each with its place and that other."""
    found = []
    for turn in turns:
        ways_back = table_of(led_back(turn))
        row = [(at, letter, ways_back[letter]) for at, letter in enumerate(letters)]
        found.append([(at, letter, behind) for at, letter, behind in row if behind != letter])
    return found


def _lesser_at(holds, row, bound):
    """At which place of the order, below the bound, a turn leads to a lesser answer; None where it doesn't."""
    for at, letter, behind in row:
        if at >= bound:
            return None
        if holds[letter] != holds[behind]:
            return at if holds[letter] == 1 else None
    return None


def _is_least(answer, rows):
    holds = worth_table(answer)
    for row in rows:
        if _lesser_at(holds, row, len(answer)) is not None:
            return False
    return True


def _step_from(answer, turns, rows):
    """The place of a turn that leads the answer to a lesser one, and that one; None where there is none.

    Of several turns it takes one by which the earliest letter tells, as then the way to one that is left is short.
    """
    holds = worth_table(answer)
    found = None
    bound = len(answer)
    for place, row in enumerate(rows):
        at = _lesser_at(holds, row, bound)
        if at is not None:
            found, bound = place, at
    if found is None:
        return None
    return found, tuple([holds[letter] for letter in led_back(turns[found])])


def _places_from(answer, steps):
    """The places of the turns by which the answer comes to one that is left."""
    places = []
    while steps[answer] is not None:
        place, answer = steps[answer]
        places.append(place)
    return places
