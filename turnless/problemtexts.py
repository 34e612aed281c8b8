"""Problems as texts: a row that tells how many truths there are, then a row for each clause."""

from turnless.errors import NoText
from turnless.problems import Problem

_HEAD = "truths"
_EMPTY = "-"
_FIGURES = "0123456789"
_MOST_FIGURES = 3


def problem_text(problem):
    """The text of the problem, each row ended by a line end."""
    rows = [f"{_HEAD} {problem.many}"] + [_clause_row(clause) for clause in problem.clauses]
    return "".join([row + "\n" for row in rows])


def read_problem(text):
    """The problem that the text tells, clauses and letters in any order, also twice."""
    if type(text) != str or text == "":
        raise NoText(0)
    *rows, last = text.split("\n")
    for at, row in enumerate(rows):
        if not _is_row(row, at):
            raise NoText(at)
    # Behind the last line end nothing stands, else that is a row without one.
    if last != "":
        raise NoText(len(rows))
    many = int(rows[0].split(" ")[1])
    return Problem(many, [_letters_of(row) for row in rows[1:]])


def _clause_row(clause):
    if clause == ():
        return _EMPTY
    return " ".join([str(letter) for letter in clause])


def _letters_of(row):
    if row == _EMPTY:
        return ()
    return tuple([int(word) for word in row.split(" ")])


def _is_row(row, at):
    """Whether the row has the form of the one at this place."""
    return _is_head_row(row) if at == 0 else _is_clause_row(row)


def _is_head_row(row):
    words = row.split(" ")
    return len(words) == 2 and words[0] == _HEAD and _is_figures(words[1])


def _is_clause_row(row):
    return row == _EMPTY or all([_is_letter_word(word) for word in row.split(" ")])


def _is_letter_word(word):
    return _is_figures(word.removeprefix("-"))


def _is_figures(word):
    """Whether the word is a number as it is written here, without a nought ahead."""
    if not 1 <= len(word) <= _MOST_FIGURES or word[0] == "0":
        return False
    return all([sign in _FIGURES for sign in word])
