"""Things of many kinds, for what is asked of anything, and what several tests ask alike."""

from turnless.errors import NoClause, NoText


class Odd:
    """Says of itself that it is equal to all, and can't be a key."""

    def __eq__(self, other):
        return True


def no_numbers():
    """Things that are no numbers, True and False among them."""
    return [
        None, True, False, "", "1", "a word", b"1", 1.0, 0.5, float("nan"), 1j,
        [], [1], (), (1,), {}, {1: 2}, {1}, frozenset([1]), range(3), iter([1]), object(), Odd(), int, len,
    ]


def no_lists():
    """Things that are neither lists nor tuples."""
    return [
        None, True, False, 0, 1, -1, 1.0, "", "1", "a word", b"", b"1", {}, {1: 2}, {1}, frozenset([1]),
        range(3), iter([1]), (k for k in [1]), object(), Odd(), list, len,
    ]


def assert_no_clause(case, at, call, *told, **more):
    with case.assertRaises(NoClause) as caught:
        call(*told, **more)
    case.assertEqual(caught.exception.at, at)


def assert_no_text(case, row, call, *told, **more):
    with case.assertRaises(NoText) as caught:
        call(*told, **more)
    case.assertEqual(caught.exception.row, row)


def unlike_clauses(many, how_many):
    """So many unlike clauses of two letters, each told as a list."""
    found = []
    for one in range(1, many + 1):
        for other in range(one + 1, many + 1):
            found.extend([[one, other], [one, -other], [-one, other], [-one, -other]])
    if len(found) < how_many:
        raise ValueError("too few truths")
    return found[:how_many]
