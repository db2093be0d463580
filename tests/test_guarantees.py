"""The guarantees (G1) to (G6) of [9], and consequences that hold between modules, over many small books."""

import itertools
import unittest

from firstfailing.anyalike import parts_any
from firstfailing.anyends import possible_ends
from firstfailing.asking import Asker
from firstfailing.bookchanges import mirrored, with_rule, without_rule
from firstfailing.bookparts import is_at_most, things_at_most
from firstfailing.completeness import finds_least, is_complete, lacking_steps, missing_rules
from firstfailing.contests import contest, order_by_contests, wins_of
from firstfailing.ending import is_ending, least_weights
from firstfailing.failing import failing_at_most, fails_by
from firstfailing.keeping import is_kept, lost_step
from firstfailing.makers import Maker
from firstfailing.mosttries import most_tries, most_tries_rising, tries_bound
from firstfailing.noends import endless_test
from firstfailing.orderchecker import lets_order
from firstfailing.partings import parting_causes
from firstfailing.rankings import first_failing, ranking_of
from firstfailing.skipping import Skipper
from firstfailing.stepping import is_falling, steps_of
from firstfailing.trials import Trial
from firstfailing.walking import last_of, tries_of, walk_of
from firstfailing.wishes import Wish, is_best
from tests.support import (
    BACK, BOOK, BOOKS, DIAMOND, DROPS, HALVES, LETTERS, PUTS, RULES, Case, are_weights, at_most, names, only_tests,
    reached, rising_tests, small_books, things_of, walk,
)
from tests.test_rankings import LOWERS

MANNERS = ("again", "on")
WAYS = [(manner, notes) for manner in MANNERS for notes in (False, True)]
SMALL = small_books(LETTERS)
FALLING = [book for book in SMALL if is_falling(book)]
# The falling books of the examples, and each seventh small one, with things of which all rising tests can be gone through.
PAIRS = [
    *[(book, x) for book in (BOOK, BACK, DROPS, HALVES, PUTS, LOWERS) for x in ("bc", "ab", "aac", "bb")],
    (HALVES, "abc"), (DIAMOND, "r"), (DIAMOND, "qz"), *[(book, "bc") for book in FALLING[::7]],
]


def is_least(book, test, thing):
    """Whether the thing fails, and nothing below it does."""
    return failing_at_most(book, test, thing) == (thing,)


class Guarantees(Case):
    def test_g1_shrinking_ends_in_the_first_failing_thing_of_the_ranking(self):
        for book, x in PAIRS:
            for test, manner in itertools.product(rising_tests(book, x), MANNERS):
                wanted = last_of(book, test, x, manner=manner)
                self.same(first_failing(book, test, x, manner=manner), wanted, (book, x, test, manner))
                rows = [thing for thing in ranking_of(book, x, manner=manner) if fails_by(book, test, thing)]
                self.same(rows[0], wanted)

    def test_g2_the_last_thing_wins_all_its_contests(self):
        for book, x in PAIRS[::2]:
            for test, manner in itertools.product(rising_tests(book, x), MANNERS):
                failing = failing_at_most(book, test, x)
                winners = [
                    a for a in failing if all(contest(book, x, a, b, manner=manner) == a for b in failing if b != a)
                    and contest(book, x, a, a, manner=manner) == a
                ]
                self.same(winners, [last_of(book, test, x, manner=manner)], (book, x, test, manner))

    def test_g2_sets_of_two_causes_decide_for_all(self):
        for (book, other), x in itertools.product(itertools.combinations(FALLING[::11], 2), ("bc", "aa")):
            for manner, other_manner in [("again", "again"), ("again", "on")]:
                alike = all(
                    last_of(book, test, x, manner=manner) == last_of(other, test, x, manner=other_manner)
                    for test in rising_tests(book, x)
                )
                causes = parting_causes(book, other, x, manner=manner, other_manner=other_manner)
                self.assertEqual(causes is None, alike, (book, other, x))
                if causes is not None:
                    ends = [last_of(one, ("causes", causes), x, manner=way) for one, way in [(book, manner), (other, other_manner)]]
                    self.assertNotEqual(*ends)

    def test_g3_complete_books_find_least_things(self):
        for book in (*FALLING[::3], BOOK, BACK, DROPS, LOWERS, PUTS):
            lacking = [x for x in things_of("abc", 3) if lacking_steps(book, x)]
            self.assertEqual(is_complete(book), lacking == [], book)
            whole = book
            for rule in missing_rules(book):
                whole = with_rule(whole, rule)
            self.assertTrue(is_complete(whole))
            for x, manner in itertools.product(("bc", "ab"), MANNERS):
                for test in rising_tests(whole, x):
                    self.assertTrue(is_least(whole, test, last_of(whole, test, x, manner=manner)))
            if lacking:
                # From a thing of which a step lacks shrinking ends in no least one, if all but this step fails.
                x = lacking[0]
                test = ("causes", lacking_steps(book, x)[:1])
                self.assertFalse(is_least(book, test, last_of(book, test, x)), (book, x))

    def test_g4_what_finds_least_things(self):
        for book, x in PAIRS:
            for manner in MANNERS:
                every = list(rising_tests(book, x))
                found = all(is_least(book, test, last_of(book, test, x, manner=manner)) for test in every)
                self.assertEqual(finds_least(book, x, manner=manner), found, (book, x, manner))
                ranking = ranking_of(book, x, manner=manner)
                whole = set(ranking) == set(things_at_most(book, x))
                rises = all(set(at_most(book, thing)) <= set(ranking[:k + 1]) for k, thing in enumerate(ranking))
                self.assertEqual(found, whole and rises)

    def test_g4_the_first_by_an_order_of_weights(self):
        for book, x in PAIRS:
            for manner in MANNERS:
                wish = Wish.plain(book[0])
                ranking = ranking_of(book, x, manner=manner)
                by_keys = tuple(sorted(things_at_most(book, x), key=wish.key))
                self.assertEqual(is_best(book, x, wish, manner=manner), ranking == by_keys)

    def test_g4_tries_are_those_by_the_thing_it_ends_in(self):
        for book, x in PAIRS[::3]:
            for test, (manner, notes) in itertools.product(rising_tests(book, x), WAYS):
                z = last_of(book, test, x, manner=manner, notes=notes)
                wanted = tries_of(book, ("causes", (z,)), x, manner=manner, notes=notes)
                self.same(tries_of(book, test, x, manner=manner, notes=notes), wanted)

    def test_g5_endless_and_ending_books(self):
        for book in (*SMALL, *BOOKS):
            told = endless_test(book)
            self.assertEqual(told is None, is_ending(book))
            if told is not None:
                for manner in MANNERS:
                    self.same(walk(book, told[1], told[0], manner, most=60), None)
        for book in [book for book in SMALL[::5] if is_ending(book)]:
            for x in ("b", "ac"):
                if len(reached(book, x)) <= 7:
                    ends = {last_of(book, test, x) for test in only_tests(book, book, x)}
                    self.same(possible_ends(book, x), tuple(sorted(ends)))

    def test_g6_what_is_said_of_all_things_holds_for_short_ones(self):
        for book in SMALL:
            falls = all(is_at_most(book, step, x) for x in things_of("abc", 2) for step in steps_of(book, x))
            self.assertEqual(is_falling(book), falls, book)
            if is_ending(book):
                weights = least_weights(book)
                self.assertTrue(are_weights(book, weights))
                if max(weights) < 5:
                    rows = [row for row in itertools.product(range(1, 8), repeat=3) if are_weights(book, row)]
                    self.same(weights, tuple(min(row[k] for row in rows) for k in range(3)))


class BetweenModules(Case):
    def test_an_order_is_one_for_mirrored_books_too(self):
        for book, x in PAIRS:
            for manner in MANNERS:
                order = order_by_contests(book, x, manner=manner)
                self.same(lets_order(book, x, order, manner=manner), len(order))
                # Mirrored rules make of mirrored things the mirrored steps, but for the order of two lesser letters.
                if all(len(lessers) < 2 for _, lessers in book[0]):
                    back = tuple(thing[::-1] for thing in order)
                    self.same(lets_order(mirrored(book), x[::-1], back, manner=manner), len(order))

    def test_wins_and_rankings(self):
        for book, x in [(BOOK, "bc"), (BACK, "cb"), (BOOK, "bb")]:
            for manner in MANNERS:
                ranking = ranking_of(book, x, manner=manner)
                for k, thing in enumerate(ranking):
                    self.same(wins_of(book, x, thing, manner=manner), tuple(sorted(ranking[k + 1:])))

    def test_books_that_part_by_a_rising_test_part_by_some_test(self):
        for book, other in itertools.combinations(FALLING[::9], 2):
            if len(reached(book, "ac") | reached(other, "ac")) <= 8 and parting_causes(book, other, "ac") is not None:
                test = parts_any(book, other, "ac")
                self.assertNotEqual(last_of(book, test, "ac"), last_of(other, test, "ac"))

    def test_askers_skippers_and_trials_make_the_walk(self):
        for book, x in PAIRS[::2]:
            for test, manner in itertools.product(rising_tests(book, x), MANNERS):
                end = last_of(book, test, x, manner=manner)
                asker, skipper = Asker(book, x, manner=manner), Skipper(book, x, manner=manner)
                trial = Trial(book, x, manner=manner)
                self.same([asker(test), skipper(test)], [end, end])
                self.same(asker.walk_now, walk_of(book, test, x, manner=manner))
                while trial.question is not None:
                    self.assertIn(end, trial.ends_left())
                    trial.answer(fails_by(book, test, trial.question))
                self.same([trial.thing_now, trial.ends_left()], [end, (end,)])
                self.assertLessEqual(trial.tries_now, tries_of(book, test, x, manner=manner, notes=True))
                self.assertLessEqual(len(skipper), len(asker))

    def test_numbers_of_tries(self):
        for book, x in PAIRS:
            rising = most_tries_rising(book, x)
            self.assertLessEqual(rising, tries_bound(book, x))
            self.assertLessEqual(most_tries_rising(book, x, notes=True), rising)
            if len(reached(book, x)) <= 9:
                self.assertTrue(len(steps_of(book, x)) <= rising <= most_tries(book, x) <= tries_bound(book, x))

    def test_what_is_kept(self):
        sorted_things = Maker(("a", "b", "c"), (
            ((("a", 0, 1), ("b", 1, 1), ("c", 2, 1)), 1), ((("b", 1, 1), ("c", 2, 1)), 1), ((("c", 2, 1),), 1),
        ))
        self.same(is_kept(DROPS, sorted_things), True)
        self.same(lost_step(BOOK, sorted_things), ("bb", "ba"))
        for rule in RULES:
            book = (LETTERS, (rule, ("drop", 1, "left")))
            self.same(is_kept(book, sorted_things), is_kept(without_rule(book, 1), sorted_things))
            if is_ending(book) and is_kept(book, sorted_things):
                for x in sorted_things.made(3):
                    self.assertTrue(all(thing in sorted_things for thing in possible_ends(book, x)))

    def test_letters_of_all_books(self):
        for book in BOOKS:
            self.same(is_kept(book, Maker.free(tuple(names(book)))), True)


if __name__ == "__main__":
    unittest.main()
