"""Turns, by which truths are exchanged and some turned over, and what they lead letters, clauses and answers to."""

from math import lcm

from turnless.errors import NoTurn
from turnless.letters import is_letter, is_list, is_number, is_worths
from turnless.problems import MOST


def is_turn(thing, many):
    """Whether the thing is a turn of so many truths, both of any kind."""
    if not _is_many(many) or type(thing) != tuple or len(thing) != many:
        return False
    return all([is_letter(letter, many) for letter in thing]) and len({abs(letter) for letter in thing}) == many


def still(many):
    """The turn of so many truths that leaves all."""
    return tuple(range(1, many + 1))


def of_letter(turn, letter):
    """The letter to which the letter goes."""
    refuse_no_turn(turn)
    return goes(turn, letter)


def of_clause(turn, clause):
    """The clause to which the clause goes, rising by truths again."""
    refuse_no_turn(turn)
    return clause_goes(turn, clause)


def of_part(turn, part):
    """The part to which the part goes, in its order."""
    refuse_no_turn(turn)
    return tuple([goes(turn, letter) for letter in part])


def of_answer(turn, answer):
    """The answer in which just those letters hold to which those go that hold in this one."""
    refuse_no_turn(turn)
    if not is_worths(answer, len(turn)):
        raise NoTurn("the turn is of another number of truths than the answer")
    holding = [goes(turn, k if worth == 1 else -k) for k, worth in enumerate(answer, start=1)]
    return tuple([1 if letter > 0 else 0 for letter in sorted(holding, key=abs)])


def then(one, other):
    """First one, then other."""
    refuse_no_turn(one)
    refuse_no_turn(other)
    if len(one) != len(other):
        raise NoTurn("the turns are of unlike many truths")
    return led_on(one, table_of(other))


def back(turn):
    """The turn that leads back."""
    refuse_no_turn(turn)
    return led_back(turn)


def order(turn):
    """How often the turn must be done, once at least, to leave all."""
    often = 1
    for letters in rounds(turn):
        often = lcm(often, len(letters))
    return often


def rounds(turn):
    """The list of rounds of letters, each going to the next, the last to the first."""
    refuse_no_turn(turn)
    found = []
    seen = {}
    for truth in range(1, len(turn) + 1):
        if truth not in seen and goes(turn, truth) != truth:
            letters = _round_of(turn, truth)
            found.append(letters)
            seen.update({abs(letter): True for letter in letters})
    return found


def _round_of(turn, first):
    letters = [first]
    letter = goes(turn, first)
    while letter != first:
        letters.append(letter)
        letter = goes(turn, letter)
    return tuple(letters)


def turn_of(many, told):
    """The turn of so many truths of which rounds tells what is told."""
    if not _is_many(many) or not is_list(told) or not all([_is_round(letters, many) for letters in told]):
        raise NoTurn("these are no rounds")
    turn = _led_round(many, told)
    # Whatever is told of no turn, be it in another order or twice, the rounds of this one differ from it.
    if not is_turn(turn, many) or rounds(turn) != list(told):
        raise NoTurn("these are the rounds of no turn")
    return turn


def _is_round(thing, many):
    return type(thing) == tuple and all([is_letter(letter, many) for letter in thing])


def _led_round(many, told):
    """What each truth goes to by the rounds, by the last of them that says so."""
    goals = list(range(1, many + 1))
    for letters in told:
        for letter, goal in zip(letters, letters[1:] + letters[:1]):
            goals[abs(letter) - 1] = goal if letter > 0 else -goal
    return tuple(goals)


def fits(problem, thing):
    """Whether the thing, of any kind, is a turn by which each clause of the problem goes to one of its clauses."""
    if not is_turn(thing, problem.many):
        return False
    own = {clause: True for clause in problem.clauses}
    return all([clause_goes(thing, clause) in own for clause in problem.clauses])


def _is_many(thing):
    return is_number(thing) and 1 <= thing <= MOST


def refuse_no_turn(thing):
    """Refuses, of anything, what is no turn of any number of truths."""
    if type(thing) != tuple or not is_turn(thing, len(thing)):
        raise NoTurn("this is no turn")


# What follows is for turns that are known to be some, and doesn't ask again.


def goes(turn, letter):
    """What the letter goes to; one of no truth of the turn stays."""
    if not 1 <= abs(letter) <= len(turn):
        return letter
    return turn[letter - 1] if letter > 0 else -turn[-letter - 1]


def clause_goes(turn, clause):
    """The clause to which the clause goes."""
    return tuple(sorted([goes(turn, letter) for letter in clause], key=abs))


def table_of(turn):
    """What each letter goes to, with the letter as the index, -1 being the last place."""
    return (0,) + turn + tuple([-letter for letter in turn[::-1]])


def led_on(turn, table):
    """First the turn, then that of the table."""
    return tuple([table[letter] for letter in turn])


def led_back(turn):
    """The turn that leads back."""
    goals = list(turn)
    for truth, letter in enumerate(turn, start=1):
        goals[abs(letter) - 1] = truth if letter > 0 else -truth
    return tuple(goals)
