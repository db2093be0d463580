"""Whether steps keep what a maker makes, for things of all lengths."""

from firstfailing.bookparts import letters_of
from firstfailing.ending import given_words
from firstfailing.errors import NotUsable
from firstfailing.makers import Maker
from firstfailing.stepping import steps_of


def lost_step(book, maker):
    """The shortest and least thing that is made and has a step that is not, with this step; None if none has."""
    if not isinstance(maker, Maker) or maker.letters != letters_of(book):
        raise NotUsable("maker", -1)
    losses = Losses(book, maker)
    for n in range(losses.lengths):
        rows = losses.open_rows(n)
        if rows[0][0]:
            thing = losses.least_thing(n, rows)
            return (thing, min([step for step in steps_of(book, thing) if step not in maker]))
    return None


def is_kept(book, maker):
    """Whether each step of each thing that is made is made, too."""
    return lost_step(book, maker) is None


class Losses:
    """Which things of a maker have steps that it does not make, told by its states.

    A step is read beside its thing: both have the same letters ahead of the place where a rule changes something, and
    behind it. So a pair of states, that of the thing and that of the step, tells what can still be lost.
    """

    def __init__(self, book, maker):
        self._rules = book[1]
        self._words = {letter: given_words(book, letter) for letter in maker.letters}
        self._moves = moves_of(maker)
        ends = [state[1] > 0 for state in maker.states] + [False]
        states = list(range(len(ends)))
        # For each number of letters: to which states so many lead from each state, and from which pairs of states
        # the same letters, so many, lead to an end from the first one and to none from the second one.
        self._reached = [tuple([(p,) for p in states])]
        self._lost = [tuple([(p, q) for p in states for q in states if ends[p] and not ends[q]])]
        self.lengths = self._filled(len(maker.states))

    def open_rows(self, n):
        """For each place in a thing of n letters, and each state there, whether something can be lost from there on."""
        states = list(range(len(self._moves)))
        rows = [[False for _ in states]]
        for k in range(n, -1, -1):
            rows.append([self._is_open(n, k, p, rows[-1]) for p in states])
        return rows[1:][::-1]

    def least_thing(self, n, rows):
        """The least thing of n letters with a step that is lost, where there is one."""
        thing = ""
        state = 0
        beside = []
        for k in range(n):
            beside = beside + [(state, many) for many in cuts(self._rules, n, k)]
            letter, beside = self._next_letter(state, beside, rows[k + 1], n - k - 1)
            thing = thing + letter
            state = self._moves[state][letter]
        return thing

    def _filled(self, many):
        """Fills the tables for each number of letters; tells behind how many no shortest thing has more."""
        # Ahead of the change no state is needed twice, and behind it no pair of states. Only the halves want the two
        # to be of one length: what they can lose goes round as soon as the tables do.
        dropped = max([rule[1] for rule in self._rules if rule[0] == "drop"], default=1)
        seen = {}
        while (self._reached[-1][0], self._lost[-1]) not in seen:
            seen[(self._reached[-1][0], self._lost[-1])] = True
            self._fill()
        lengths = max(many + dropped + many * (many + 1), 2 * len(self._lost))
        while len(self._lost) < lengths:
            self._fill()
        return lengths

    def _fill(self):
        """Fills the tables for one letter more."""
        reached = self._reached[-1]
        lost = self._lost[-1]
        states = list(range(len(self._moves)))
        self._reached.append(tuple([joined([reached[p] for p in row.values()]) for row in self._moves]))
        self._lost.append(tuple([(p, q) for p in states for q in states if self._leads_into(lost, p, q)]))

    def _leads_into(self, pairs, p, q):
        """Whether a letter leads from two states to one of the pairs."""
        return any([(after, self._moves[q][letter]) in pairs for letter, after in self._moves[p].items()])

    def _is_open(self, n, k, p, behind):
        """Whether something can be lost from state p at place k on; behind tells it for the next place."""
        if self._is_lost(p, [(p, many) for many in cuts(self._rules, n, k)], n - k):
            return True
        return k < n and self._next_letter(p, [], behind, n - k - 1) is not None

    def _next_letter(self, p, beside, behind, left):
        """The least letter from state p on with which something can be lost, and what is beside then; None if none."""
        for letter, after in self._moves[p].items():
            others = [self._read(q, wait, letter) for q, wait in beside]
            others.extend([(self._run(p, word), 0) for word in self._words[letter]])
            if behind[after] or self._is_lost(after, others, left):
                return (letter, others)
        return None

    def _is_lost(self, p, beside, left):
        """Whether the letters that are left can lead to an end from state p, and to none from a state beside it."""
        # A state beside another one is that of a step, with how many of the letters are left out first.
        return any([
            (end, q) in self._lost[left - wait] for q, wait in beside for end in self._reached[wait][p]
        ])

    def _read(self, q, wait, letter):
        """The state of a step behind a letter, and how many of the next ones are left out."""
        return (q, wait - 1) if wait > 0 else (self._moves[q][letter], 0)

    def _run(self, p, word):
        """The state to which a word leads from state p."""
        state = p
        for letter in word:
            state = self._moves[state][letter]
        return state


def moves_of(maker):
    """For each state, and for one more that is never left, to which state each letter leads."""
    nowhere = len(maker.states)
    return [moves_by(maker.letters, arrows, nowhere) for arrows, _ in maker.states + (((), 0),)]


def moves_by(letters, arrows, nowhere):
    """To which state each letter leads by these arrows."""
    moves = {letter: nowhere for letter in letters}
    for letter, after, _ in arrows:
        moves[letter] = after
    return moves


def joined(rows):
    """All that is in the rows, ascending."""
    return tuple(sorted({state for row in rows for state in row}))


def cuts(rules, n, k):
    """How many letters the rules leave out from place k on of a thing with n letters."""
    found = []
    for rule in rules:
        if rule[0] == "drop" and k + rule[1] <= n:
            found.append(rule[1])
        if rule == ("half", "left") and k == n // 2:
            found.append(n - k)
        if rule == ("half", "right") and k == 0:
            found.append(n - n // 2)
        if rule == ("empty",) and k == 0:
            found.append(n)
    return found
