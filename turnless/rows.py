"""What rows of texts share: numbers, letters and clauses as they are written."""

_EMPTY = "-"
_FIGURES = "0123456789"

# Truths are written with so many figures at most.
MOST_FIGURES = 3


def is_figures(word, most):
    """Whether the word is a number from 1 on as it is written: so many figures at most, without a nought ahead."""
    if not 1 <= len(word) <= most or word[0] == "0":
        return False
    return all([sign in _FIGURES for sign in word])


def is_letters_row(row):
    """Whether the row is of letters, one at least, with one blank between."""
    return all([is_figures(word.removeprefix("-"), MOST_FIGURES) for word in row.split(" ")])


def letters_row(letters):
    """The row of the letters."""
    return " ".join([str(letter) for letter in letters])


def letters_of(row):
    """The letters of a row of letters."""
    return tuple([int(word) for word in row.split(" ")])


def is_clause_row(row):
    """Whether the row is of letters, in any order, or that of the empty clause."""
    return row == _EMPTY or is_letters_row(row)


def clause_row(clause):
    """The row of the clause."""
    return _EMPTY if clause == () else letters_row(clause)


def letters_of_clause(row):
    """The letters of a clause's row, in its order."""
    return () if row == _EMPTY else letters_of(row)
