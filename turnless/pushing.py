"""Pushes: what clauses make so, letter by letter, once some letters are so."""


class Pusher:
    """Clauses, each once, and pushes by them."""

    def __init__(self, clauses=()):
        self._numbers = {}
        self._clauses = {}
        self._having = {}
        self._short = {}
        self._next_number = 0
        for clause in clauses:
            self.put(clause)

    def put(self, clause):
        """Takes the clause among those by which is pushed; one that is among them stays so."""
        if clause in self._numbers:
            return
        number = self._next_number
        self._next_number = number + 1
        self._numbers[clause] = number
        self._clauses[number] = clause
        for letter in clause:
            having = self._having.setdefault(letter, {})
            having[number] = True
        if len(clause) < 2:
            self._short[clause] = True

    def drop(self, clause):
        """Takes the clause, if it is among them, away."""
        number = self._numbers.pop(clause, None)
        if number is None:
            return
        del self._clauses[number]
        for letter in clause:
            del self._having[letter][number]
        if len(clause) < 2:
            del self._short[clause]

    def has(self, clause):
        """Whether the clause is among them."""
        return clause in self._numbers

    def follows(self, clause):
        """Whether a push that denies the clause's letters comes to a clause that has all letters denied."""
        lost, _ = self.pushed([-letter for letter in clause])
        return lost is not None

    def pushed(self, letters):
        """A clause that at last has all letters denied, or None; and a dict of the letters that are so by then."""
        so = {letter: True for letter in letters}
        waiting = list(so)
        lost = _made_so(self._short, so, waiting)
        # Of each clause that was touched, how many letters aren't denied by those that no longer wait.
        free = {}
        while waiting and lost is None:
            one_free = []
            for number in self._having.get(-waiting.pop(), {}):
                clause = self._clauses[number]
                free[number] = free.get(number, len(clause)) - 1
                if free[number] == 1:
                    one_free.append(clause)
            lost = _made_so(one_free, so, waiting)
        return lost, so


def _made_so(clauses, so, waiting):
    """Makes the letters so that alone aren't denied of these clauses; tells one that has all denied, or None."""
    for clause in clauses:
        free = [letter for letter in clause if -letter not in so]
        if len(free) == 0:
            return clause
        if free[0] not in so:
            so[free[0]] = True
            waiting.append(free[0])
    return None
