"""Groups of turns: all products of some makers, held as floors, of which each turn is a product of one of each."""

from turnless.errors import NoLetter, NoProblem, NotThere, NoTurn, TooMany
from turnless.letters import is_letter, is_list, is_number
from turnless.turns import goes, is_turn, led_back, led_on, still, table_of

MOST_TRUTHS = 12

_MOST_MAKERS = 60


class Group:
    """All products of the makers, and the turn that leaves all."""

    def __init__(self, many, makers=(), *, base=()):
        if not is_number(many) or not 1 <= many <= MOST_TRUTHS:
            raise NoProblem(f"a group is of 1 to {MOST_TRUTHS} truths")
        self._many = many
        self._makers = _unlike_makers(makers, many)
        self._chain = _chain_of(many, _base_letters(base, many), self._makers)
        # Behind the letters that were handed in, only those stand that a turn moves.
        self._places = [at for at, goals in enumerate(self._chain.goals) if at < len(base) or len(goals) > 1]

    def __eq__(self, other):
        return (
            isinstance(other, Group) and self._many == other._many and self.size() == other.size()
            and all([other.has(turn) for turn in self._makers])
        )

    def truths(self):
        """Of how many truths it is."""
        return self._many

    def makers(self):
        """The list of turns, none still, of which all are products."""
        return list(self._makers)

    def base(self):
        """The list of letters, one for each floor; only still leaves all."""
        return [self._chain.letters[at] for at in self._places]

    def floors(self):
        """For each letter of the base, one turn to each letter to which it goes while those ahead stay."""
        return [_rising(self._chain.goals[at]) for at in self._places]

    def size(self):
        """How many turns there are."""
        return self._chain.size()

    def has(self, thing):
        """Whether the thing, of any kind, is one of the turns."""
        return is_turn(thing, self._many) and self._chain.holds(thing, 0)

    def factors(self, turn):
        """One of the turns of each floor, the last floor's first, whose product the turn is."""
        if not self.has(turn):
            raise NotThere(None)
        found = []
        for at in self._places:
            goal = goes(turn, self._chain.letters[at])
            found.append(self._chain.goals[at][goal])
            turn = led_on(turn, self._chain.ways_back[at][goal])
        return found[::-1]

    def orbit(self, letter):
        """The rising tuple of the letters to which the letter goes."""
        if not is_letter(letter, self._many):
            raise NoLetter("this is no letter")
        return orbit_of(letter, self._makers)

    def orbits(self):
        """The rising list of all orbits."""
        found = {}
        for truth in range(1, self._many + 1):
            found[orbit_of(truth, self._makers)] = True
            found[orbit_of(-truth, self._makers)] = True
        return sorted(list(found))

    def leaving(self, letters):
        """The group of the turns that leave each of the letters."""
        if not is_list(letters) or not all([is_letter(letter, self._many) for letter in letters]):
            raise NoLetter("these are no letters")
        # A letter stays just where its other sign does.
        firsts = list({abs(letter): True for letter in letters})
        chain = _chain_of(self._many, firsts, self._makers)
        return Group(self._many, chain.makers_of(len(firsts)))

    def turns(self, *, most=1000):
        """The rising list of all turns; refused where there are more than most."""
        if self.size() > most:
            raise TooMany(f"there are more turns than {most}")
        found = [still(self._many)]
        for floor in self.floors()[::-1]:
            tables = [table_of(turn) for turn in floor.values()]
            found = [led_on(turn, table) for turn in found for table in tables]
        return sorted(found)


class Chain:
    """A group floor by floor, over an order of letters, one of each truth.

    Floor at is of the group of those turns that leave the letters ahead of place at: from the
    letters to which the letter at goes by them, to one such turn each. The makers of each such
    group were none of it when they came, so each makes it twice as large at least: they are few.
    """

    def __init__(self, letters):
        self.letters = letters
        self.goals = [{letter: still(len(letters))} for letter in letters]
        self.ways_back = [{letter: table_of(still(len(letters)))} for letter in letters]
        self._made_by = [[] for letter in letters]

    def size(self):
        """How many turns there are."""
        size = 1
        for goals in self.goals:
            size = size * len(goals)
        return size

    def makers_of(self, at):
        """Turns whose products are all that leave the letters ahead of place at."""
        return list(self._made_by[at]) if at < len(self.letters) else []

    def holds(self, turn, at):
        """Whether a turn is in the group of floor at."""
        for place in range(at, len(self.letters)):
            goal = goes(turn, self.letters[place])
            if goal not in self.goals[place]:
                return False
            turn = led_on(turn, self.ways_back[place][goal])
        # It leaves one letter of each truth now, if it left those ahead of place at.
        return True

    def put(self, turn, at):
        """Takes a turn that leaves the letters ahead of place at into the group of floor at."""
        if self.holds(turn, at):
            return
        self._made_by[at].append(turn)
        goals = self.goals[at]
        table = table_of(turn)
        left = [(goal, table) for goal in goals]
        while left:
            start, table = left.pop()
            way = led_on(goals[start], table)
            goal = goes(way, self.letters[at])
            if goal in goals:
                # All that leave the letter are products of such: there by one way, back by that of the floor.
                self.put(led_on(way, self.ways_back[at][goal]), at + 1)
            else:
                goals[goal] = way
                self.ways_back[at][goal] = table_of(led_back(way))
                left.extend([(goal, table_of(maker)) for maker in self._made_by[at]])


def orbit_of(letter, makers):
    """The rising tuple of the letters to which the letter goes by products of the makers."""
    tables = [table_of(maker) for maker in makers]
    found = {letter: True}
    left = [letter]
    while left:
        start = left.pop()
        for table in tables:
            if table[start] not in found:
                found[table[start]] = True
                left.append(table[start])
    return tuple(sorted(list(found)))


def _chain_of(many, firsts, makers):
    """The chain of these makers, over the first letters, then the other truths, rising."""
    known = {abs(letter): True for letter in firsts}
    chain = Chain(firsts + [truth for truth in range(1, many + 1) if truth not in known])
    for maker in makers:
        chain.put(maker, 0)
    return chain


def _unlike_makers(makers, many):
    """The list of the makers that aren't still, each once."""
    if not is_list(makers):
        raise NoTurn("the makers are no list")
    if len(makers) > _MOST_MAKERS:
        raise TooMany(f"a group has at most {_MOST_MAKERS} makers")
    if not all([is_turn(maker, many) for maker in makers]):
        raise NoTurn("a maker is no turn of so many truths")
    return list({maker: True for maker in makers if maker != still(many)})


def _base_letters(base, many):
    """The list of the letters of the base."""
    if not is_list(base) or not all([is_letter(letter, many) for letter in base]):
        raise NoLetter("the base is no list of letters")
    if len({abs(letter) for letter in base}) < len(base):
        raise NoLetter("the base has two letters of one truth")
    return list(base)


def _rising(floor):
    return {letter: floor[letter] for letter in sorted(list(floor))}
