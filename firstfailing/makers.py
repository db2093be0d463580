"""Makers of things: states, arrows that add letters, and weights."""

from math import gcd

from firstfailing.errors import InvalidPaper, NotUsable
from firstfailing.kinds import is_letter_set, is_number, is_thing
from firstfailing.makerchecker import lets_maker


class Maker:
    """A maker of things, which never changes."""

    def __init__(self, letters, states):
        try:
            lets_maker(letters, states)
        except InvalidPaper:
            raise NotUsable("states", -1) from None
        self._letters = letters
        self._states = states

    @property
    def letters(self):
        """The set of the letters."""
        return self._letters

    @property
    def states(self):
        """The states, each with its arrows and the weight of ending in it."""
        return self._states

    @classmethod
    def free(cls, letters):
        """The maker of all things of these letters, with all weights 1."""
        if not is_letter_set(letters):
            raise NotUsable("letters", -1)
        return cls(letters, ((tuple([(letter, 0, 1) for letter in letters]), 1),))

    def weight(self, thing):
        """The weight of a thing, 0 for any value that is not made."""
        if not is_thing(thing):
            return 0
        state = self._states[0]
        weight = 1
        for letter in thing:
            arrows = [arrow for arrow in state[0] if arrow[0] == letter]
            if not arrows:
                return 0
            state = self._states[arrows[0][1]]
            weight = weight * arrows[0][2]
        return weight * state[1]

    def share(self, thing):
        """The weight of a thing as a part of that of all things of its length, in lowest terms."""
        weight = self.weight(thing)
        if weight == 0:
            return (0, 1)
        total = self.total(len(thing))
        common = gcd(weight, total)
        return (weight // common, total // common)

    def made(self, n):
        """The things of n letters that are made, ascending, one by one."""
        need_length(n)
        rows = sums_of(evened(self._states), n)
        left = [("", 0)] if rows[n][0] > 0 else []
        while left:
            thing, state = left.pop()
            if len(thing) == n:
                yield thing
            else:
                # Only arrows behind which something is made, the last letter first: what comes last is taken first.
                behind = rows[n - len(thing) - 1]
                arrows = [arrow for arrow in self._states[state][0] if behind[arrow[1]] > 0]
                left.extend([(thing + letter, after) for letter, after, _ in arrows[::-1]])

    def counts(self, n):
        """How many things of n letters are made."""
        need_length(n)
        return sums_of(evened(self._states), n)[n][0]

    def total(self, n):
        """The sum of the weights of the things of n letters."""
        need_length(n)
        return sums_of(self._states, n)[n][0]

    def __contains__(self, x):
        return self.weight(x) > 0

    def __eq__(self, other):
        return isinstance(other, Maker) and self._letters == other._letters and self._states == other._states


def need_length(n):
    """Refuses what is no number of letters."""
    if not is_number(n):
        raise NotUsable("n", -1)


def evened(states):
    """The states with all weights 1, so that each thing that is made weighs 1."""
    return tuple([
        (tuple([(letter, after, 1) for letter, after, _ in arrows]), min(ends, 1)) for arrows, ends in states
    ])


def sums_of(states, n):
    """For each number of letters up to n the weight of all that is made of so many behind each state."""
    rows = [[ends for _, ends in states]]
    for _ in range(n):
        rows.append([sum_behind(state[0], rows[-1]) for state in states])
    return rows


def sum_behind(arrows, sums):
    """The weight of all that is made behind a state with these arrows, where they lead to states with these sums."""
    return sum([weight * sums[after] for _, after, weight in arrows])
