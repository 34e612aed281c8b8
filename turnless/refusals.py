"""What several files refuse alike: more truths than they take, turns and groups that don't fit a problem."""

from turnless.errors import NotThere, TooMany
from turnless.turns import fits


def refuse_more(problem, most):
    """Refuses a problem of more truths than most."""
    if problem.many > most:
        raise TooMany(f"the problem has more truths than {most}")


def refuse_unfit(problem, turns):
    """Refuses the first of the turns that doesn't fit the problem."""
    for at, turn in enumerate(turns):
        if not fits(problem, turn):
            raise NotThere(at)


def refuse_unfit_group(problem, group):
    """Refuses a group of another number of truths than the problem, or with a maker that doesn't fit."""
    if group.truths() != problem.many:
        raise NotThere(0)
    refuse_unfit(problem, group.makers())
