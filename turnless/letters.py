"""Letters, and what is asked of things of any kind: whether they are numbers, lists, letters, clauses, parts."""


def is_number(thing):
    """Whether it is a whole number; True and False are none."""
    # Asked of the very kind, as a kind made from int may tell anything of itself.
    return type(thing) == int


def is_list(thing):
    """Whether it may stand where a list is handed in."""
    return type(thing) in (list, tuple)


def word_of(thing):
    """The word with which a tuple begins, None where there is none."""
    if type(thing) != tuple or len(thing) == 0 or type(thing[0]) != str:
        return None
    return thing[0]


def is_letter(thing, many):
    """Whether it is a letter of one of so many truths."""
    return is_number(thing) and 1 <= abs(thing) <= many


def clause_of(thing, many):
    """The clause of a list of letters in any order, also twice; None of anything else."""
    if not is_list(thing):
        return None
    letters = {}
    for letter in thing:
        # First whether it is one, as only then it surely can be a key.
        if not is_letter(letter, many) or -letter in letters:
            return None
        letters[letter] = True
    return tuple(sorted(list(letters), key=abs))


def is_clause(thing, many):
    """Whether it is a clause over so many truths: a tuple, rising by truths."""
    # Where there is a clause of it, all in it are letters, so nothing else is compared.
    return type(thing) == tuple and clause_of(thing, many) == thing


def is_part(thing, many):
    """Whether it is a tuple of letters of unlike truths, in any order."""
    if type(thing) != tuple or not all([is_letter(letter, many) for letter in thing]):
        return False
    return len({abs(letter) for letter in thing}) == len(thing)


def letters_beside(used, many):
    """The rising list of the letters of so many truths, but of those that are used."""
    truths = [truth for truth in range(1, many + 1) if truth not in used]
    return [-truth for truth in truths[::-1]] + truths


def is_worths(thing, many):
    """Whether it is a tuple of 0 and 1, one for each of so many truths."""
    if type(thing) != tuple or len(thing) != many:
        return False
    return all([is_number(worth) and worth in (0, 1) for worth in thing])


def worth_table(worths):
    """Whether each letter holds by these worths, 1 or 0, with the letter as the index, -1 being the last place."""
    return (0,) + worths + tuple([1 - worth for worth in worths[::-1]])


def letter_holds(letter, worths):
    """Whether the letter holds by these worths."""
    worth = worths[abs(letter) - 1]
    return worth == 1 if letter > 0 else worth == 0


def clause_holds(clause, worths):
    """Whether one letter of the clause holds by these worths."""
    return any([letter_holds(letter, worths) for letter in clause])
