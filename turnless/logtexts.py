"""Logs as texts: a row for each step."""

from turnless.errors import NoText
from turnless.rows import clause_row, is_clause_row, is_figures
from turnless.rows import is_letters_row, letters_of, letters_of_clause, letters_row

# What stands behind the first word of a row: some letters, a clause, or a number of a step and letters.
_LETTERS = ("order", "turn")
_CLAUSES = ("learn", "pure", "drop")
_TURNED = "turned"
_BY = " by "

_MOST_FIGURES_OF_STEP = 4


def log_text(log):
    """The text of the log, each row ended by a line end."""
    return "".join([_row_of(step) + "\n" for step in log])


def read_log(text):
    """The list of the steps that the text tells."""
    if type(text) != str:
        raise NoText(0)
    *rows, last = text.split("\n")
    steps = []
    for at, row in enumerate(rows):
        step = _step_of(row)
        if step is None:
            raise NoText(at)
        steps.append(step)
    # Behind the last line end nothing stands, else that is a row without one.
    if last != "":
        raise NoText(len(rows))
    return steps


def _row_of(step):
    word = step[0]
    if word in _LETTERS:
        return f"{word} {letters_row(step[1])}"
    if word in _CLAUSES:
        return f"{word} {clause_row(step[1])}"
    return f"{word} {step[1]}{_BY}{letters_row(step[2])}"


def _step_of(row):
    """The step that the row tells, None where it has no such form."""
    word, _, told = row.partition(" ")
    if word in _LETTERS and is_letters_row(told):
        return word, letters_of(told)
    if word in _CLAUSES and is_clause_row(told):
        clause = letters_of_clause(told)
        return (word, clause) if _rises(clause) else None
    if word == _TURNED:
        at, _, letters = told.partition(_BY)
        if _is_step_number(at) and is_letters_row(letters):
            return word, int(at), letters_of(letters)
    return None


def _rises(clause):
    """Whether the letters rise by truths, of which none stands twice."""
    return all([abs(one) < abs(other) for one, other in zip(clause, clause[1:])])


def _is_step_number(word):
    return word == "0" or is_figures(word, _MOST_FIGURES_OF_STEP)
