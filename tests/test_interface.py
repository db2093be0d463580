"""The interface: each name with its parameters, in the file under which the document lists it, and the errors."""

import importlib
import inspect
import pathlib
import unittest

from firstfailing import errors

# The parameters as the document writes them.
FUNCTIONS = {
    "kinds": [
        "is_integer(thing)", "is_number(thing)", "is_letter(thing)", "is_thing(thing)", "is_things(thing)", "is_letters(thing)",
        "is_rule(thing)", "is_rules(thing)", "is_test(thing)", "is_weights(thing)", "is_book(thing)",
    ],
    "bookchecker": ["lets_book(thing)"],
    "bookparts": [
        "letters_of(book)", "lessers_of(book, letter)", "letters_below(book, letter)", "next_lessers(book, letter)",
        "has_letters(book, thing)", "is_at_most(book, u, v)", "things_at_most(book, x)", "next_less(book, x)",
    ],
    "bookchanges": [
        "with_rule(book, rule, *, at=None)", "without_rule(book, k)", "moved_rule(book, k, at)", "mirrored(book)",
        "with_letter(book, letter, lessers)", "renamed(book, table)",
    ],
    "booktexts": ["letter_line(entry)", "rule_line(rule)", "book_text(book)"],
    "bookreadings": ["letter_read(text, *, line=0)", "rule_read(text, *, line=0)", "book_read(text)"],
    "stepping": ["steps_of(book, x)", "rule_steps(book, k, x)", "is_falling(book)"],
    "ending": ["is_ending(book)", "least_weights(book)", "ending_paper(book)"],
    "endingchecker": ["lets_ending(book, thing)"],
    "failing": ["fails_by(book, test, x)", "failing_at_most(book, test, x)"],
    "walking": [
        "walk_of(book, test, x, *, manner='again', notes=False)", "last_of(book, test, x, *, manner='again', notes=False)",
        "tries_of(book, test, x, *, manner='again', notes=False)",
    ],
    "walkchecker": ["lets_walk(book, test, x, thing, *, manner='again', notes=False)"],
    "rankings": [
        "ranking_of(book, x, *, manner='again')", "place_in_ranking(book, x, z, *, manner='again')",
        "first_failing(book, test, x, *, manner='again')",
    ],
    "contests": [
        "contest(book, x, a, b, *, manner='again')", "wins_of(book, x, a, *, manner='again')",
        "order_by_contests(book, x, *, manner='again')",
    ],
    "orderchecker": ["lets_order(book, x, thing, *, manner='again')"],
    "partings": [
        "parting_causes(book, other, x, *, manner='again', other_manner='again')",
        "alike_paper(book, other, x, *, manner='again', other_manner='again')",
    ],
    "partingchecker": ["lets_parting(book, other, x, thing, *, manner='again', other_manner='again')"],
    "completeness": [
        "lacking_steps(book, x)", "finds_least(book, x, *, manner='again')", "is_complete(book)", "missing_rules(book)",
    ],
    "wishes": ["is_best(book, x, wish, *, manner='again')", "worst_causes(book, x, wish, *, manner='again')"],
    "anyends": ["possible_ends(book, x)", "way_to(book, x, z)", "test_for(book, x, z)"],
    "noends": ["endless_test(book)"],
    "mosttries": [
        "most_tries(book, x)", "most_test(book, x)", "tries_bound(book, x)",
        "most_tries_rising(book, x, *, manner='again', notes=False)",
    ],
    "anyalike": ["parts_any(book, other, x)", "case_paper(book, other, x)"],
    "casechecker": ["lets_cases(book, other, x, thing)"],
    "makerchecker": ["lets_maker(letters, thing)"],
    "keeping": ["lost_step(book, maker)", "is_kept(book, maker)"],
    "trialevents": ["is_event(thing)"],
    "replaying": ["is_log(thing)", "replayed(log)"],
    "eventtexts": ["event_line(event)", "log_lines(log)"],
    "eventreadings": ["read_event(text)", "read_log(lines)"],
}
# For each class its module, its base, how it is made, its properties, its methods, and what stands behind signs.
CLASSES = {
    "Book": (
        "bookclasses", object, "(letters=(), rules=())", ["letters", "rules", "form"], ["read(text)", "plain(*letters)"],
        ["call", "getitem", "contains", "len", "eq", "str", "or"],
    ),
    "Mirrored": ("bookclasses", "Book", "(letters, rules)", ["source"], [], []),
    "Eager": ("bookclasses", "Book", "(letters, rules, *, most=2)", ["source"], [], []),
    "Asker": (
        "asking", object, "(book, x, *, manner='again', notes=False)",
        ["question", "thing_now", "tries_now", "said", "walk_now", "is_done"],
        ["answer(it_fails)", "undo()", "copied()", "begun(book, *things)", "plain(x)"],
        ["call", "iadd", "len", "getitem", "contains", "eq", "iter", "str"],
    ),
    "Skipper": ("skipping", "Asker", "(book, x, *, manner='again')", [], ["copied()"], []),
    "Wish": (
        "wishes", object, "(letters, *weights)", ["letters", "weights"], ["key(thing)", "best(things)", "plain(letters)"],
        ["getitem", "contains", "len", "iter", "eq"],
    ),
    "Maker": (
        "makers", object, "(letters, states)", ["letters", "states"],
        ["weight(thing)", "share(thing)", "made(n)", "counts(n)", "total(n)", "free(letters)"], ["contains", "eq"],
    ),
    "Trial": (
        "trials", object, "(book, x, *, manner='again')",
        [
            "book_now", "manner_now", "thing_now", "question", "steps_now", "walk_now", "tries_now", "failing", "passing",
        ],
        [
            "ends_left()", "answer(it_fails)", "told(thing, it_fails)", "add_rule(rule, at)", "take_rule(k)", "start(thing)",
            "set_manner(word)", "go(event)", "tried(*events)", "undo()", "do_all(*events, keep=False)", "tally()", "barred(event)",
            "table()", "log()",
        ],
        ["call", "getitem", "setitem", "contains", "iter", "len", "eq", "str"],
    ),
    "Desk": ("desk", object, "()", [], ["say(row)", "tally()"], []),
}
FAMILIES = {
    "PaperError": {"InvalidPaper": ("word", "at")},
    "BookError": {"NotUsable": ("word", "at"), "NotFalling": ("rule",), "NotEnding": ("ring",)},
    "TrialError": {"InvalidEvent": ("event", "reason"), "NothingToUndo": ("steps",)},
    "TextError": {"InvalidText": ("line", "field"), "InvalidRow": ("row",)},
}


def module_of(name):
    """The module with this name."""
    return importlib.import_module(f"firstfailing.{name}")


def parameters(function, inner=False):
    """The parameters as they are written, without the first one of a method."""
    rows = list(inspect.signature(function).parameters.values())
    return str(inspect.Signature(rows[1 if inner else 0:]))


class Interface(unittest.TestCase):
    def test_functions(self):
        for module, rows in FUNCTIONS.items():
            for row in rows:
                name = row.partition("(")[0]
                function = getattr(module_of(module), name)
                self.assertEqual(function.__module__, f"firstfailing.{module}")
                self.assertEqual(name + parameters(function), row)

    def test_classes(self):
        for name, (module, base, made, shown, methods, signs) in CLASSES.items():
            kind = getattr(module_of(module), name)
            self.assertEqual(kind.__module__, f"firstfailing.{module}")
            self.assertEqual(kind.__bases__[0] if base is object else kind.__bases__[0].__name__, base)
            self.assertEqual(parameters(vars(kind)["__init__"], True), made)
            for part in shown:
                self.assertIsInstance(vars(kind)[part], property, (name, part))
            for sign in signs:
                self.assertIn(f"__{sign}__", vars(kind), name)
            for row in methods:
                part = row.partition("(")[0]
                self.assertIn(part, vars(kind), name)
                self.assertEqual(part + parameters(getattr(kind, part), self.is_plain(kind, part)), row)

    def is_plain(self, kind, name):
        """Whether it is a method of objects, which has a first parameter that is not written."""
        return not isinstance(vars(kind)[name], (staticmethod, classmethod))

    def test_kinds_of_methods(self):
        for name, part, kind in [
            ("Book", "read", classmethod), ("Book", "plain", staticmethod), ("Asker", "begun", classmethod),
            ("Asker", "plain", staticmethod), ("Wish", "plain", classmethod), ("Maker", "free", classmethod),
        ]:
            self.assertIsInstance(vars(getattr(module_of(CLASSES[name][0]), name))[part], kind)
        self.assertTrue(inspect.isgeneratorfunction(module_of("makers").Maker.made))
        self.assertEqual(module_of("trials").Trial.MOST, 40)

    def test_errors(self):
        self.assertEqual(errors.FailError.__bases__, (ValueError,))
        for family, rows in FAMILIES.items():
            self.assertEqual(getattr(errors, family).__bases__, (errors.FailError,))
            for name, fields in rows.items():
                kind = getattr(errors, name)
                self.assertEqual(kind.__bases__, (getattr(errors, family),))
                self.assertEqual(tuple(inspect.signature(kind).parameters), fields)
                values = [[k] for k in range(len(fields))]
                for error in (kind(*values), kind(**dict(zip(fields, values)))):
                    self.assertEqual(list(vars(error)), list(fields))
                    for field, value in zip(fields, values):
                        self.assertIs(getattr(error, field), value)

    def test_each_module_is_listed(self):
        listed = {*FUNCTIONS, *[row[0] for row in CLASSES.values()], "errors", "__init__"}
        folder = pathlib.Path(errors.__file__).parent
        self.assertEqual({path.stem for path in folder.glob("*.py")}, listed)


if __name__ == "__main__":
    unittest.main()
