"""Point [58]: the checker of makers."""

import itertools
import unittest

from firstfailing.errors import InvalidPaper
from firstfailing.makerchecker import lets_maker
from tests.support import Case

ABC = ("a", "b", "c")
PAIRS = (((("a", 1, 1),), 1), ((("b", 0, 2),), 0))
FREE = (((("a", 0, 3), ("c", 0, 1)), 1),)
LONG = (
    ((("a", 0, 1), ("b", 1, 2), ("c", 2, 10 ** 59)), 0),
    ((), 7),
    ((("c", 0, 1),), 10 ** 59),
    ((("a", 3, 1), ("c", 1, 1)), 0),
)
NO_LETTER_SETS = (
    None, True, 0, "", "abc", "a", [], ["a"], ("b", "a"), ("a", "a"), ("ab",), ("",), (1,), (None,), ("A",), (["a"],), (("a", ()),),
)
ODD_VALUES = (None, True, False, 0, 1, 2, -1, "", "a", "b", "d", "ab", "A", (), [], ("a",), ["a"], ("a", 0, 1))


def verdict(letters, thing):
    """What the checker is to say: a number, or the word and the place of the first entry that applies."""
    if type(thing) is not tuple or thing == ():
        return ("shape", -1)
    for s, state in enumerate(thing):
        if type(state) is not tuple or len(state) != 2 or type(state[0]) is not tuple:
            return ("state", s)
        if type(state[1]) is not int or state[1] < 0:
            return ("state", s)
        for k, arrow in enumerate(state[0]):
            if type(arrow) is not tuple or len(arrow) != 3 or type(arrow[0]) is not str or arrow[0] not in letters:
                return ("arrow", (s, k))
            if type(arrow[1]) is not int or arrow[1] not in range(len(thing)) or type(arrow[2]) is not int or arrow[2] < 1:
                return ("arrow", (s, k))
            if k > 0 and arrow[0] <= state[0][k - 1][0]:
                return ("arrow", (s, k))
    return len(thing)


def changed(value):
    """The nested tuples with each part, at whatever depth, changed, left out or doubled."""
    if type(value) is not tuple:
        return
    for k, part in enumerate(value):
        front, behind = value[:k], value[k + 1:]
        yield front + behind
        yield (*front, part, part, *behind)
        for other in ODD_VALUES:
            yield (*front, other, *behind)
        for other in changed(part):
            yield (*front, other, *behind)
    yield list(value)
    yield value[::-1]


class Checks(Case):
    def says(self, letters, thing, wanted=None):
        """The checker says what it is to say, and this, if told."""
        right = verdict(letters, thing)
        if wanted is not None:
            self.same(right, wanted, thing)
        if type(right) is int:
            self.same(lets_maker(letters, thing), right, thing)
        else:
            self.refused(InvalidPaper, {"word": right[0], "at": right[1]}, lets_maker, letters, thing)

    def test_makers(self):
        for thing, many in [(PAIRS, 2), (FREE, 1), (LONG, 4), ((((), 0),), 1), ((((), 1),) * 50, 50)]:
            self.says(ABC, thing, many)
        self.says((), (((), 3),), 1)
        self.says(("k", "z"), (((("k", 0, 1), ("z", 0, 10 ** 59)), 0),), 1)
        self.says(tuple("abcdefghijklmnopqrstuvwxyz"), LONG, 4)

    def test_changed_makers(self):
        for thing in (PAIRS, FREE, LONG):
            for letters in (ABC, ("a", "b"), ("c",), ()):
                for other in [thing, *changed(thing)]:
                    self.says(letters, other)

    def test_makers_changed_twice(self):
        for k, one in enumerate(changed(PAIRS)):
            if k % 5 == 0:
                for two in changed(one):
                    self.says(ABC, two)

    def test_shape(self):
        for value in (None, True, 0, 1, "", "a", (), [], list(PAIRS), [((), 1)]):
            self.says(ABC, value, ("shape", -1))

    def test_states(self):
        for value in (
            None, True, 0, "", "ab", (), [], ((),), ((), 0, 0), [(), 0], ([], 0), ((), -1), ((), True), ((), None), ((), "0"),
            ((), (0,)), ("", 0), (None, 0), (0, ()), ("a", 0),
        ):
            self.says(ABC, (value,), ("state", 0))
            self.says(ABC, (((), 0), value, None), ("state", 1))
            self.says(ABC, (*LONG, value), ("state", 4))

    def test_arrows(self):
        for value in (
            None, True, 0, "", "a01", (), [], ("a",), ("a", 0), ("a", 0, 1, 1), ["a", 0, 1], ("d", 0, 1), ("", 0, 1), ("ab", 0, 1),
            (None, 0, 1), (["a"], 0, 1), (0, "a", 1), ("a", -1, 1), ("a", 2, 1), ("a", 3, 1), ("a", True, 1), ("a", None, 1),
            ("a", "0", 1), ("a", 10 ** 59, 1), ("a", 0, 0), ("a", 0, -1), ("a", 0, True), ("a", 0, None), ("a", 0, "1"), ("a", 0, (1,)),
        ):
            self.says(ABC, (((value,), 0), ((), 0)), ("arrow", (0, 0)))
            self.says(ABC, (((), 0), ((value, None), 0)), ("arrow", (1, 0)))
            self.says(ABC, (((("a", 0, 1), value), 0), ((), 0)), ("arrow", (0, 1)))

    def test_letters_ascend(self):
        for row in itertools.product("abc", repeat=3):
            arrows = tuple((letter, 0, 1) for letter in row)
            wrong = [k for k in (1, 2) if row[k] <= row[k - 1]]
            self.says(ABC, ((arrows, 0),), ("arrow", (0, wrong[0])) if wrong else 1)
        # Each state begins anew.
        self.says(ABC, (((("c", 0, 1),), 0), ((("a", 0, 1),), 0)), 2)

    def test_all_of_one_state_comes_before_the_next_one(self):
        self.says(ABC, (((("a", 9, 1),), 0), None), ("arrow", (0, 0)))
        self.says(ABC, (((("a", 9, 1),), -1), None), ("state", 0))
        self.says(ABC, (((("a", 1, 1), None), 0), None), ("arrow", (0, 1)))
        self.says(ABC, (((("a", 1, 1),), 0), None), ("state", 1))

    def test_the_number_of_states_counts(self):
        self.says(ABC, (((("a", 1, 1),), 0),), ("arrow", (0, 0)))
        self.says(ABC, (((("a", 1, 1),), 0), ((), 0)), 2)

    def test_wrong_letters(self):
        for value in NO_LETTER_SETS:
            for thing in (PAIRS, None, (), FREE):
                self.unusable("letters", lets_maker, value, thing)

    def test_arguments_by_name(self):
        self.same(lets_maker(thing=PAIRS, letters=ABC), 2)

    def test_what_is_handed_in_does_not_change(self):
        given = [[["a", 0, 1]], 1]
        self.refused(InvalidPaper, {"word": "shape", "at": -1}, lets_maker, ABC, given)
        self.refused(InvalidPaper, {"word": "state", "at": 0}, lets_maker, ABC, (given,))
        self.unusable("letters", lets_maker, given, PAIRS)
        self.same(given, [[["a", 0, 1]], 1])


if __name__ == "__main__":
    unittest.main()
