"""A desk: rows of words, each answered by a row."""

from turnless.bench import Bench
from turnless.errors import NoText, TurnError
from turnless.finding import formed
from turnless.kinds import least
from turnless.problems import answers
from turnless.problemtexts import is_head_row
from turnless.rows import clause_row, is_clause_row, is_letters_row, letters_of, letters_of_clause, letters_row
from turnless.solving import solved
from turnless.turns import fits

_DONE = "ok"
_NO_ROW = "no row"


def answers_of(text):
    """The text of the rows that answer those of the text, each ended by a line end."""
    if type(text) != str:
        raise NoText(0)
    *rows, last = text.split("\n")
    # Behind the last line end nothing stands, else that is a row without one.
    if last != "":
        raise NoText(len(rows))
    desk = Desk()
    return "".join([desk.answer_of(row) + "\n" for row in rows])


# What follows answers a row of one word.


def _back(bench):
    bench.back()
    return _DONE


def _again(bench):
    bench.again()
    return _DONE


def _group(bench):
    return str(bench.group().size())


def _orbits(bench):
    return "; ".join([letters_row(orbit) for orbit in bench.group().orbits()])


def _kinds(bench):
    rows = [f"{_signs_of(answer)} {often}" for answer, often in bench.kinds().items()]
    return "; ".join(rows) if rows else "-"


def _count(bench):
    return str(len(answers(bench.problem())))


def _solve(bench):
    word, told = solved(bench.problem())
    return f"{word} {_signs_of(told)}" if word == "yes" else word


def _form(bench):
    problem, _ = formed(bench.problem())
    rows = [clause_row(clause) for clause in problem.clauses]
    return "; ".join(rows) if rows else "none"


# What follows answers a row of a word and what stands behind it, if that has its form.


def _put(bench, told):
    if not is_clause_row(told):
        return _NO_ROW
    bench.put(letters_of_clause(told))
    return _DONE


def _drop(bench, told):
    if not is_clause_row(told):
        return _NO_ROW
    bench.drop(letters_of_clause(told))
    return _DONE


def _hold(bench, told):
    if not is_letters_row(told) or " " in told:
        return _NO_ROW
    bench.hold(int(told))
    return _DONE


def _fits(bench, told):
    if not is_letters_row(told):
        return _NO_ROW
    return "yes" if fits(bench.problem(), letters_of(told)) else "no"


def _least(bench, told):
    if told == "" or not all([sign in "01" for sign in told]):
        return _NO_ROW
    answer, _ = least(bench.group(), tuple([int(sign) for sign in told]))
    return _signs_of(answer)


def _signs_of(answer):
    return "".join([str(worth) for worth in answer])


_ALONE = {
    "back": _back, "again": _again, "group": _group, "orbits": _orbits, "kinds": _kinds, "count": _count,
    "solve": _solve, "form": _form,
}
_WITH_MORE = {"put": _put, "drop": _drop, "hold": _hold, "fits": _fits, "least": _least}


class Desk:
    """Answers rows, by a bench once there is one."""

    def __init__(self):
        self._bench = None

    def answer_of(self, row):
        """The row that answers this one."""
        try:
            return self._answered(row)
        except TurnError as e:
            return "refused " + type(e).__name__

    def _answered(self, row):
        """The same, of what isn't refused."""
        if is_head_row(row):
            self._bench = Bench(int(row.split(" ")[1]))
            return _DONE
        if self._bench is None:
            return _NO_ROW
        if row in _ALONE:
            alone = _ALONE[row]
            return alone(self._bench)
        word, _, told = row.partition(" ")
        if word not in _WITH_MORE:
            return _NO_ROW
        action = _WITH_MORE[word]
        return action(self._bench, told)
