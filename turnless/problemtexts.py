"""Problems as texts: a row that tells how many truths there are, then a row for each clause."""

from turnless.errors import NoText
from turnless.problems import Problem
from turnless.rows import MOST_FIGURES, clause_row, is_clause_row, is_figures, letters_of_clause

_HEAD = "truths"


def problem_text(problem):
    """The text of the problem, each row ended by a line end."""
    rows = [f"{_HEAD} {problem.many}"] + [clause_row(clause) for clause in problem.clauses]
    return "".join([row + "\n" for row in rows])


def read_problem(text):
    """The problem that the text tells, clauses and letters in any order, also twice."""
    if type(text) != str or text == "":
        raise NoText(0)
    *rows, last = text.split("\n")
    for at, row in enumerate(rows):
        if not _is_row(row, at):
            raise NoText(at)
    # Behind the last line end nothing stands, else that is a row without one.
    if last != "":
        raise NoText(len(rows))
    many = int(rows[0].split(" ")[1])
    return Problem(many, [letters_of_clause(row) for row in rows[1:]])


def _is_row(row, at):
    """Whether the row has the form of the one at this place."""
    return is_head_row(row) if at == 0 else is_clause_row(row)


def is_head_row(row):
    """Whether the row tells how many truths there are."""
    words = row.split(" ")
    return len(words) == 2 and words[0] == _HEAD and is_figures(words[1], MOST_FIGURES)
