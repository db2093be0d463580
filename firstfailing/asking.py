"""Shrinking of which each try is answered by whoever leads it."""

from firstfailing.bookparts import has_letters, need_thing
from firstfailing.ending import need_ending
from firstfailing.errors import NothingToUndo, NotUsable
from firstfailing.failing import is_failing, need_test
from firstfailing.kinds import is_number, is_thing
from firstfailing.stepping import led_steps, need_manner, need_notes, steps_of


class Asker:
    """Shrinking from a thing that asks and is answered."""

    def __init__(self, book, x, *, manner="again", notes=False):
        need_thing(book, x, "x")
        need_manner(manner, "manner")
        need_notes(notes)
        need_ending(book)
        self._book = book
        self._x = x
        self._manner = manner
        self._notes = notes
        self._said = ()
        self._walk = ((x, 0),)
        self._ahead = led_steps(book, x, 0)
        self._past = []

    @property
    def question(self):
        """The thing that is asked next, None if shrinking has ended."""
        return self._ahead[0][0] if self._ahead else None

    @property
    def thing_now(self):
        """The thing now."""
        return self._walk[-1][0]

    @property
    def tries_now(self):
        """How many tries were answered."""
        return len(self._said)

    @property
    def said(self):
        """The pairs of a thing and whether it fails of all tries, in order."""
        return self._said

    @property
    def walk_now(self):
        """The pairs of a thing and its tries so far, the last one that of the thing now."""
        return self._walk

    @property
    def is_done(self):
        """Whether shrinking has ended."""
        return len(self._ahead) == 0

    @classmethod
    def begun(cls, book, *things):
        """An Asker that was led from the first of the things to each further one."""
        need_way(book, things)
        asker = cls(book, things[0])
        for thing in things[1:]:
            while asker.question != thing:
                asker.answer(False)
            asker.answer(True)
        return asker

    @staticmethod
    def plain(x):
        """An Asker from x that leaves out single letters, from the first one on."""
        if not is_thing(x):
            raise NotUsable("x", -1)
        letters = tuple([(letter, ()) for letter in sorted(set(x))])
        return Asker((letters, (("drop", 1, "left"),)), x)

    def answer(self, it_fails):
        """Takes the question to fail, or not; tells the next one."""
        if not isinstance(it_fails, bool) or not self._ahead:
            raise NotUsable("it_fails", -1)
        step, rule = self._ahead[0]
        thing, tries = self._walk[-1]
        self._past.append((self._walk, self._ahead))
        self._said = self._said + ((step, it_fails),)
        self._walk = self._walk[:-1] + ((thing, tries + 1),)
        ahead = self._ahead[1:]
        if it_fails:
            self._walk = self._walk + ((step, 0),)
            ahead = led_steps(self._book, step, rule if self._manner == "on" else 0)
        self._ahead = self._asked_of(ahead)
        return self.question

    def undo(self):
        """Takes back the last answer; tells the thing that was asked."""
        if not self._past:
            raise NothingToUndo(0)
        self._walk, self._ahead = self._past.pop()
        self._said = self._said[:-1]
        return self.question

    def copied(self):
        """An Asker that stands as this one."""
        return self._led(Asker(self._book, self._x, manner=self._manner, notes=self._notes))

    def _led(self, other):
        """Another Asker, when it was answered as this one."""
        answers = [it_fails for _, it_fails in self._said]
        for it_fails in answers:
            other.answer(it_fails)
        return other

    def _asked_of(self, steps):
        """Those of the steps, each with its rule, that are still asked."""
        # What was asked before and failed led here, and in an ending book nothing leads back to it.
        known = [pair[0] for pair in self._said] if self._notes else []
        return tuple([pair for pair in steps if pair[0] not in known])

    def __call__(self, test):
        need_test(self._book, test)
        while self._ahead:
            self.answer(is_failing(self._book, test, self._ahead[0][0]))
        return self.thing_now

    def __iadd__(self, other):
        self.answer(other)
        return self

    def __len__(self):
        return len(self._said)

    def __getitem__(self, at):
        if not is_number(at) or at >= len(self._said):
            raise NotUsable("k", -1)
        return self._said[at]

    def __contains__(self, x):
        return isinstance(x, str) and x in [thing for thing, _ in self._said]

    def __iter__(self):
        return iter(self._said)

    def __eq__(self, other):
        return (
            isinstance(other, Asker)
            and self._book == other._book
            and self._x == other._x
            and self._manner == other._manner
            and self._notes == other._notes
            and self._said == other._said
        )

    def __str__(self):
        return " ".join([try_word(thing, it_fails) for thing, it_fails in self._said])


def try_word(thing, it_fails):
    """How a try is written: its thing, - for the empty one, and a sign for whether it fails."""
    name = thing or "-"
    return f"{name}!" if it_fails else f"{name}."


def need_way(book, things):
    """Refuses things that are no way of steps, by the first one that is not as it is to be."""
    if len(things) == 0:
        raise NotUsable("things", 0)
    for k, thing in enumerate(things):
        if not has_letters(book, thing) or (k > 0 and thing not in steps_of(book, things[k - 1])):
            raise NotUsable("things", k)
