"""Points [2], [58], [59], [61]: makers of things."""

import itertools
import math
import unittest

from firstfailing.makerchecker import lets_maker
from firstfailing.makers import Maker
from tests.support import NO_NUMBERS, NO_THINGS, Case, things_of
from tests.test_makerchecker import ABC, FREE, LONG, NO_LETTER_SETS, PAIRS, changed, verdict

HUGE = 10 ** 59 + 7
# a leads on and back, b stays, c leads nowhere; state 3 is never reached, and nothing ends in state 1.
ROUND = (
    ((("a", 1, 2), ("b", 0, 3), ("c", 2, 5)), 1),
    ((("a", 0, 1), ("b", 1, 4)), 0),
    ((), 0),
    ((("a", 0, 6), ("b", 3, 1)), 9),
)
WEIGHTY = (((("a", 0, HUGE), ("b", 1, 10 ** 58)), 10 ** 59), ((("a", 1, 6), ("c", 0, HUGE - 1)), 15))
ODD_THINGS = (*NO_THINGS, "d", "abd")
STATES = (PAIRS, FREE, LONG, ROUND, WEIGHTY, (((), 0),), (((), 4),), (((("b", 0, 2),), 0),), (((("c", 0, 1),), 3),))
MAKERS = [Maker(ABC, states) for states in STATES]


def weight_of(states, thing):
    """The weight of a thing, by all runs from state 0 on."""
    if type(thing) is not str:
        return 0
    runs = [(0, 1)]
    for letter in thing:
        runs = [(arrow[1], weight * arrow[2]) for state, weight in runs for arrow in states[state][0] if arrow[0] == letter]
    return sum(weight * states[state][1] for state, weight in runs)


class Makers(Case):
    def test_the_examples(self):
        pairs = Maker(("a", "b", "c"), (((("a", 1, 1),), 1), ((("b", 0, 2),), 0)))
        self.same([list(pairs.made(4)), pairs.weight("abab")], [["abab"], 4])
        self.same(Maker(("a", "c"), (((("a", 0, 3), ("c", 0, 1)), 1),)).share("ac"), (3, 16))

    def test_what_it_was_made_of(self):
        for states in STATES:
            maker = Maker(ABC, states)
            self.same([maker.letters, maker.states], [ABC, states])
        self.same(Maker((), (((), 1),)).letters, ())
        self.same(Maker(tuple("abcdefghijklmnopqrstuvwxyz"), LONG).states, LONG)

    def test_weights(self):
        for maker in MAKERS:
            for thing in things_of("abcd", 5):
                wanted = weight_of(maker.states, thing)
                self.same(maker.weight(thing), wanted, (maker.states, thing))
                self.same(thing in maker, wanted > 0, (maker.states, thing))
            for value in (*ODD_THINGS, ("a",), ["a", "b"], 10 ** 59, b"a", maker):
                self.same(maker.weight(value), 0)
                self.same(value in maker, False)

    def test_weights_of_sixty_digits(self):
        maker = Maker(ABC, WEIGHTY)
        self.same(maker.weight("aab"), HUGE * HUGE * 10 ** 58 * 15)
        self.same(maker.weight("bc"), 10 ** 58 * (HUGE - 1) * 10 ** 59)
        self.same(maker.total(1), HUGE * 10 ** 59 + 10 ** 58 * 15)
        self.same(maker.weight("a" * 200), HUGE ** 200 * 10 ** 59)
        p, q = maker.share("a")
        self.same((p * maker.total(1), math.gcd(p, q)), (maker.weight("a") * q, 1))

    def test_things_of_a_length(self):
        for maker in MAKERS:
            for n in range(6):
                wanted = [thing for thing in sorted(things_of("abc", n)) if len(thing) == n and weight_of(maker.states, thing)]
                made = maker.made(n)
                self.assertEqual(type(made).__name__, "generator")
                self.assertIs(iter(made), made)
                self.same(list(made), wanted, (maker.states, n))
                self.same(list(made), [])
                self.same(maker.counts(n), len(wanted))
                self.same(maker.total(n), sum(weight_of(maker.states, thing) for thing in wanted))

    def test_longest_things(self):
        free = Maker.free(("a", "b", "c", "d"))
        self.same([free.counts(8), free.total(8)], [4 ** 8, 4 ** 8])
        self.same(list(itertools.islice(free.made(8), 3)), ["aaaaaaaa", "aaaaaaab", "aaaaaaac"])
        self.assertEqual(sum(1 for _ in free.made(8)), 4 ** 8)
        self.same(list(Maker(ABC, PAIRS).made(8)), ["abababab"])
        wanted = [thing for thing in map("".join, itertools.product("abc", repeat=7)) if weight_of(ROUND, thing)]
        self.same(list(Maker(ABC, ROUND).made(7)), wanted)

    def test_things_come_one_by_one(self):
        made = Maker.free(ABC).made(8)
        self.same([next(made), next(made)], ["aaaaaaaa", "aaaaaaab"])
        # Where almost all ways end nowhere, they are not gone.
        narrow = Maker(ABC, (((("a", 0, 1), ("b", 0, 1), ("c", 1, 1)), 0), ((), 1)))
        self.same(next(narrow.made(8)), "aaaaaaac")
        self.same(next(Maker(ABC, (((("a", 0, 1), ("b", 0, 1)), 0),)).made(8), None), None)
        self.same(Maker(ABC, (((("a", 0, 1), ("b", 0, 1)), 0),)).counts(100), 0)
        self.same(list(Maker(ABC, (((("a", 0, 1), ("b", 0, 1)), 0),)).made(100)), [])

    def test_the_empty_thing(self):
        self.same([list(Maker(ABC, PAIRS).made(0)), Maker(ABC, PAIRS).counts(0), Maker(ABC, PAIRS).total(0)], [[""], 1, 1])
        self.same([list(Maker(ABC, LONG).made(0)), Maker(ABC, LONG).counts(0), Maker(ABC, LONG).total(0)], [[], 0, 0])
        self.same(Maker(ABC, (((), 4),)).total(0), 4)
        self.same([Maker(ABC, (((), 4),)).share(""), "" in Maker(ABC, (((), 4),)), "" in Maker(ABC, LONG)], [(1, 1), True, False])

    def test_no_letters(self):
        maker = Maker((), (((), 3),))
        self.same([maker.weight(""), maker.weight("a"), list(maker.made(0)), list(maker.made(1)), maker.counts(2)], [3, 0, [""], [], 0])
        self.same(maker.share(""), (1, 1))

    def test_shares(self):
        for maker in MAKERS:
            for thing in things_of("abc", 4):
                p, q = maker.share(thing)
                self.assertEqual((type(p), type(q)), (int, int))
                weight = weight_of(maker.states, thing)
                if weight == 0:
                    self.same(maker.share(thing), (0, 1))
                else:
                    self.assertEqual(math.gcd(p, q), 1)
                    self.assertEqual(p * maker.total(len(thing)), q * weight)
            for value in ODD_THINGS:
                if value != "":
                    self.same(maker.share(value), (0, 1), value)
        self.same(Maker(ABC, PAIRS).share("abab"), (1, 1))
        self.same([Maker.free(ABC).share("abcabcab"), Maker.free(ABC).share("d")], [(1, 3 ** 8), (0, 1)])
        self.same(Maker(ABC, (((("a", 0, 4), ("b", 0, 2)), 6),)).share("ab"), (2, 9))

    def test_equality(self):
        for one, two in itertools.product(MAKERS, repeat=2):
            self.same(one == two, one is two)
            self.same(one != two, one is not two)
        self.same(Maker(ABC, PAIRS) == Maker(("a", "b", "c"), (((("a", 1, 1),), 1), ((("b", 0, 2),), 0))), True)
        self.same(Maker(ABC, FREE) == Maker(("a", "c"), FREE), False)
        self.same(Maker(ABC, (((), 1),)) == Maker(ABC, (((), 2),)), False)
        for value in (None, True, 0, "", ABC, PAIRS, (ABC, PAIRS), [ABC, PAIRS], ()):
            self.same(Maker(ABC, PAIRS) == value, False)
            self.same(value == Maker(ABC, PAIRS), False)

        class Other(Maker):
            """A derived class."""

        self.same([Maker(ABC, PAIRS) == Other(ABC, PAIRS), Other(ABC, PAIRS) == Maker(ABC, PAIRS)], [True, True])

    def test_free(self):
        for letters in ((), ("a",), ABC, ("k", "z")):
            maker = Maker.free(letters)
            self.assertIs(type(maker), Maker)
            self.same(maker.letters, letters)
            self.same(maker.states, ((tuple((letter, 0, 1) for letter in letters), 1),))
            for thing in things_of("abkz", 3):
                self.same(maker.weight(thing), int(set(thing) <= set(letters)))
        self.same(Maker.free(letters=ABC) == Maker(ABC, (((("a", 0, 1), ("b", 0, 1), ("c", 0, 1)), 1),)), True)

    def test_consequences(self):
        for maker in MAKERS:
            for n in range(6):
                self.assertGreaterEqual(maker.total(n), maker.counts(n))
                shares = [maker.share(thing) for thing in maker.made(n)]
                if shares:
                    common = math.lcm(*[q for _, q in shares])
                    self.assertEqual(sum(p * (common // q) for p, q in shares), common)
                light = Maker(ABC, tuple(
                    (tuple((letter, state, 1) for letter, state, _ in arrows), min(ends, 1)) for arrows, ends in maker.states
                ))
                self.same(light.total(n), light.counts(n))
                self.same(light.counts(n), maker.counts(n))


class Refused(Case):
    def test_wrong_letters(self):
        for value in NO_LETTER_SETS:
            self.unusable("letters", Maker, value, PAIRS)
            self.unusable("letters", Maker, value, None)
            self.unusable("letters", Maker.free, value)

    def test_wrong_states(self):
        for states in (PAIRS, FREE):
            for letters in (ABC, ("a",), ()):
                for value in [None, (), "", 0, states, *changed(states)]:
                    if type(verdict(letters, value)) is int:
                        self.same(Maker(letters, value).states, value)
                        self.same(lets_maker(letters, value), len(value))
                    else:
                        self.unusable("states", Maker, letters, value)

    def test_wrong_numbers(self):
        for maker in MAKERS:
            for value in (*NO_NUMBERS, -10 ** 59, "a", ("a",)):
                self.unusable("n", maker.counts, value)
                self.unusable("n", maker.total, value)
                # A generator raises its errors when the first thing is asked for.
                made = maker.made(value)
                self.unusable("n", next, made)

    def test_it_never_changes(self):
        maker = Maker(ABC, ROUND)
        for name in ("letters", "states"):
            with self.assertRaises(AttributeError):
                setattr(maker, name, ())
        list(maker.made(4)), maker.counts(3), maker.total(5), maker.share("ab"), maker.weight("ab"), "ab" in maker
        for value in (None, -1):
            self.unusable("n", maker.counts, value)
        self.same([maker.letters, maker.states], [ABC, ROUND])
        self.same(maker == Maker(ABC, ROUND), True)
        one, two = maker.made(2), maker.made(2)
        self.same([next(one), next(two), next(one)], ["aa", "aa", "bb"])

    def test_what_is_handed_in_does_not_change(self):
        given = [[["a", 0, 1]], 1]
        self.unusable("states", Maker, ABC, given)
        self.unusable("letters", Maker, given, given)
        self.same(given, [[["a", 0, 1]], 1])

    def test_arguments_by_name(self):
        maker = Maker(states=PAIRS, letters=ABC)
        self.same([maker.weight(thing="ab"), maker.share(thing="ab"), maker.counts(n=2), maker.total(n=2)], [2, (1, 1), 1, 2])
        self.same(list(maker.made(n=2)), ["ab"])


if __name__ == "__main__":
    unittest.main()
