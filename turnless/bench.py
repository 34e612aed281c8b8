"""A bench: clauses are put and dropped by deeds, that can be taken back and done again."""

from turnless.errors import NoClause, NoDeed, NoLetter, NoProblem, NotThere, TooMany, Twice
from turnless.finding import all_turns
from turnless.groups import MOST_TRUTHS
from turnless.kinds import kinds
from turnless.letters import clause_of, is_letter, is_list, is_number, word_of
from turnless.problems import MOST_CLAUSES, Problem

_WORDS = ("put", "drop", "hold", "each")


class Bench:
    """So many truths, and the clauses that stand behind the deeds."""

    def __init__(self, many, clauses=()):
        if not is_number(many) or not 1 <= many <= MOST_TRUTHS:
            raise NoProblem(f"a bench has from 1 to {MOST_TRUTHS} truths")
        self._many = many
        self._standing = {}
        # Pairs of a deed, with clauses rising, and its changes, the last deed last.
        self._done = []
        self._taken_back = []
        self._begun = 0
        self._over = 0
        if not is_list(clauses):
            raise NoClause(0)
        for clause in clauses:
            self.put(clause)

    def put(self, clause):
        """Lets a clause stand."""
        self._do(("put", clause))

    def drop(self, clause):
        """Takes a clause that stands away."""
        self._do(("drop", clause))

    def hold(self, letter):
        """Lets the clause of this letter alone stand."""
        self._do(("hold", letter))

    def back(self):
        """Takes the last deed that stands back."""
        if self._done == []:
            raise NoDeed(None)
        deed, changes = self._done.pop()
        for clause, stands in changes[::-1]:
            _let(self._standing, clause, not stands)
        self._taken_back.append((deed, changes))

    def again(self):
        """Does the deed again that was taken back last, if none was done behind that."""
        if self._taken_back == []:
            raise NoDeed(None)
        deed, changes = self._taken_back.pop()
        for clause, stands in changes:
            _let(self._standing, clause, stands)
        self._done.append((deed, changes))

    def each(self, deeds, *, just=False):
        """Does the deeds, one behind the other, as one deed, all or none; where just, all is as ahead behind it."""
        self._begun += 1
        try:
            _refuse_no_deeds(deeds)
            standing, changes = self._copied(), []
            deed = ("each", self._all_made(deeds, standing, changes))
            if not just:
                self._note(deed, standing, changes)
        finally:
            self._over += 1

    def problem(self):
        """The problem of the clauses that stand."""
        return Problem(self._many, list(self._standing))

    def group(self):
        """The group of all its turns."""
        return all_turns(self.problem())

    def kinds(self):
        """How many of its answers are of each kind by all its turns, from the least of the kind on."""
        problem = self.problem()
        return kinds(problem, all_turns(problem))

    def log(self):
        """The list of the deeds that stand."""
        return [deed for deed, _ in self._done]

    def tries(self):
        """How many each were begun, and how many ended."""
        return self._begun, self._over

    def twin(self):
        """Another bench that tells all alike, and goes its own way from here on."""
        other = Bench(self._many)
        other._standing = self._copied()
        other._done = list(self._done)
        other._taken_back = list(self._taken_back)
        other._begun = self._begun
        other._over = self._over
        return other

    def _copied(self):
        return {clause: True for clause in self._standing}

    def _do(self, deed):
        """Does a deed that is no each."""
        standing, changes = self._copied(), []
        made = self._made(deed, standing, changes)
        self._note(made, standing, changes)

    def _note(self, deed, standing, changes):
        """Takes over what stands behind a deed, that was made on a copy so that what is refused changes nothing."""
        self._standing = standing
        self._done.append((deed, tuple(changes)))
        self._taken_back = []

    def _made(self, deed, standing, changes):
        """The deed with clauses rising, once it was made: what stands is changed, and the changes are noted."""
        word, thing = deed
        if word == "each":
            return word, self._inner_made(thing, standing, changes)
        clause = self._clause_of(word, thing)
        stands = word != "drop"
        _refuse_change(standing, clause, stands)
        _let(standing, clause, stands)
        changes.append((clause, stands))
        return word, thing if word == "hold" else clause

    def _inner_made(self, deeds, standing, changes):
        """The same of the deeds of an each within another one."""
        self._begun += 1
        try:
            return self._all_made(deeds, standing, changes)
        finally:
            self._over += 1

    def _all_made(self, deeds, standing, changes):
        return tuple([self._made(deed, standing, changes) for deed in deeds])

    def _clause_of(self, word, thing):
        """The clause of which a deed of this word tells, by this thing of any kind."""
        if word == "hold":
            if not is_letter(thing, self._many):
                raise NoLetter("this is no letter")
            return (thing,)
        clause = clause_of(thing, self._many)
        if clause is None:
            raise NoClause(0)
        return clause


def bench_of(many, log):
    """A new bench behind the deeds of a log, each done by itself."""
    bench = Bench(many)
    _refuse_no_deeds(log)
    for word, thing in log:
        if word == "put":
            bench.put(thing)
        elif word == "drop":
            bench.drop(thing)
        elif word == "hold":
            bench.hold(thing)
        else:
            bench.each(thing)
    return bench


def _refuse_no_deeds(deeds):
    """Refuses, of anything, the first that has not the form of a deed, in the order in which they would be done."""
    if not is_list(deeds):
        raise NoDeed(0)
    for at, deed in enumerate(deeds):
        word = word_of(deed)
        if word not in _WORDS or len(deed) != 2:
            raise NoDeed(at)
        if word == "each":
            if type(deed[1]) != tuple:
                raise NoDeed(at)
            _refuse_no_deeds(deed[1])


def _refuse_change(standing, clause, stands):
    """Refuses to let a clause stand that does, or to take one away that doesn't."""
    if not stands:
        if clause not in standing:
            raise NotThere(0)
        return
    if clause in standing:
        raise Twice("this clause stands already")
    if len(standing) >= MOST_CLAUSES:
        raise TooMany(f"at most {MOST_CLAUSES} clauses stand")


def _let(standing, clause, stands):
    """Lets the clause stand, or takes it away."""
    if stands:
        standing[clause] = True
    else:
        del standing[clause]
