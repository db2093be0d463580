"""Point [11]: the functions that tell of which kind a value is, with [2], [3], [6] and [12]."""

import unittest

from firstfailing import kinds
from tests.support import BOOKS, LETTERS, RULES, Case

LONG = "a" * 4000
MANY = tuple("ab"[: k % 3] * k for k in range(50))
DEEP = ()
for _ in range(29):
    DEEP = (DEEP,)

NUMBERS = [0, 1, 2, 7, 10 ** 59, 10 ** 60 - 1]
INTEGERS = [*NUMBERS, -1, -2, -(10 ** 59)]
LETTER = ["a", "m", "z"]
THINGS = ["", *LETTER, "aa", "ba", "abc", "xyzzy", LONG]
NO_STRINGS = [
    "A", "Z", "aB", "Ba", "a b", " ", " a", "a ", "-", "a-b", "a,b", "1", "a1", "0", "\n", "a\n", "\na", "a\nb",
    "`", "{", "~", "@", "[", "_", "a_b", "True", "None", "()", "left ", "Left",
]
WORDS = ["left", "right", "drop", "half", "empty", "lower", "put", "causes", "only", "but", "has", "again", "on"]
SETS = [
    (), ("",), ("a",), ("z",), ("ab",), ("a", "b"), ("a", "b", "c"), ("", "a"), ("a", "aa", "ab", "b"), ("b", "ba"),
    (LONG,), ("left", "right"), ("aa", "b"),
]
LETTER_SETS = [(), ("a",), ("z",), ("a", "b"), ("a", "b", "c")]
NO_SETS = [
    ("b", "a"), ("a", "a"), ("a", "c", "b"), ("b", ""), ("a", "b", "b"), ("A",), ("a", "B"), ("a", 1), (1,), (True,),
    (None,), ("a", None), ("a b",), ("a\n",), (("a",),), (["a"],), ("aa", "a"), ("b", "aa"), (("a",), ("b",)),
]
LISTS = [[], [""], ["a"], ["a", "b"], [1], [True], [[]], [()], [("a", ())], [("drop", 1, "left")], ["causes", ()]]
LETTERS_LIKE = [
    (), (("a", ()),), (("a", ("a",)),), (("a", ("b",)),), (("a", ("x", "y")), ("b", ())), LETTERS,
    (("b", ()), ("z", ("a", "b", "z"))), (("a", ("b",)), ("b", ("a",))),
]
NO_LETTERS_LIKE = [
    (("b", ()), ("a", ())), (("a", ()), ("a", ())), (("a", ()), ("a", ("b",))), (("a",),), (("a", (), ()),),
    (["a", ()],), (("a", []),), (("a", ["b"]),), (("a", ("b", "a")),), (("a", ("b", "b")),), (("ab", ()),),
    (("", ()),), (("A", ()),), (("a", ("ab",)),), (("a", ("",)),), (("a", "b"),), (("a", None),), ((1, ()),),
    (("a", (1,)),), (("a", ()), None), (("a", ()), "b"), (("a", ()), ()), ((("a",), ()),), ((["a"], ()),),
    (("a", ()), ("c", ()), ("b", ())), [("a", ())], ((True, ()),), (("a", ("b", ["c"])),),
]
RULE = [
    *RULES, ("drop", 5, "right"), ("drop", 10 ** 59, "left"), ("put", "z", "", "right"), ("put", "a", "za", "left"),
    ("put", "a", LONG, "left"), ("put", "x", "xx", "right"), ("put", "q", "y", "right"),
]
NO_RULE = [
    ("drop",), ("drop", 1), ("drop", 0, "left"), ("drop", -1, "left"), ("drop", True, "left"), ("drop", "1", "left"),
    ("drop", None, "left"), ("drop", (1,), "left"), ("drop", [1], "left"), ("drop", 1, "Left"), ("drop", 1, None),
    ("drop", 1, "up"), ("drop", 1, ["left"]), ("drop", 1, ("left",)), ("drop", 1, "left", "left"), ("drop", "left", 1),
    ("drop", 1, True), ("drop", 1, ""), ("half",), ("half", "left", "left"), ("half", 1), ("half", "middle"),
    ("half", ["left"]), ("half", None), ("half", 1, "left"), ("empty", "left"), ("empty", ()), ("empty", None),
    ("lower",), ("lower", 1, "left"), ("lower", "lower"), ("lower", True), ("lower", "left", 1), ("lower", ("left",)),
    ("put",), ("put", "a", "b"), ("put", "a", "a", "left"), ("put", "ab", "a", "left"), ("put", "", "a", "left"),
    ("put", "a", "A", "left"), ("put", "A", "a", "left"), ("put", "a", None, "left"), ("put", "a", ("b",), "left"),
    ("put", ["a"], "b", "left"), ("put", "a", ["b"], "left"), ("put", "a", "b", "on"), ("put", "a", "b", "left", "left"),
    ("put", "a", "b\n", "left"), ("put", 1, "b", "left"), ("put", "a", 1, "left"), ("put", "a", "b", None),
    ("put", "a", "b c", "left"), ("put", "a", "-", "left"), ("Drop", 1, "left"), ("swap", "left"), ("", "left"),
    (["drop"], 1, "left"), (("drop",), 1, "left"), (True, 1, "left"), (None,), ["drop", 1, "left"], ["empty"],
    ["half", "left"], "empty", ("put", "z", "z", "right"),
]
TESTS = [
    *[(word, things) for word in ("causes", "only", "but") for things in SETS],
    *[("has", things) for things in LETTER_SETS],
]
NO_TEST = [
    *[(word, things) for word in ("causes", "only", "but", "has") for things in NO_SETS],
    *[("has", things) for things in SETS if things not in LETTER_SETS],
    ("causes",), ("causes", (), ()), ("causes", []), ("causes", ["a"]), ("only", "a"), ("but", None), ("has", "a"),
    ("has", ["a"]), ("have", ()), ("", ()), ("Only", ()), (["only"], ()), (("only",), ()), (None, ()), (True, ("a",)),
    (1, ("a",)), [], ["only", ()], ("only", True), ("only", 1),
]
WEIGHTS = [(), (1,), (2, 1), (1, 1, 1), (10 ** 59, 3), (5,) * 30]
NO_WEIGHTS = [(0,), (1, 0), (-1,), (True,), (1, True), (1, None), ("1",), ((1,),), ([1],), [1], (1, "a"), (1, [])]
NO_BOOK = [
    (LETTERS,), (LETTERS, (), ()), [LETTERS, ()], (list(LETTERS), ()), (LETTERS, []), (LETTERS, None), (None, ()),
    (LETTERS, ("x",)), (LETTERS, (("put", "d", "", "left"),)), (LETTERS, (("put", "a", "ad", "left"),)),
    ((("a", ("b",)),), ()), ((("a", ("a",)),), ()), ((("a", ("b",)), ("b", ("a",))), ()), ((("b", ()), ("a", ())), ()),
    (LETTERS, (("drop", 0, "left"),)), (LETTERS, (["empty"],)), ("", ""), (LETTERS, "empty"), (1, 2),
    ((), (("put", "a", "", "left"),)), (LETTERS, (("drop", True, "left"),)), ((("a", ()), ("a", ())), ()),
    ((("a", ("c",)), ("b", ("a",)), ("c", ("b",))), ()), (LETTERS, ((),)), (LETTERS, (None,)), (LETTERS, ([],)),
]
RULE_ROWS = [(), RULES, RULES[:1], RULES[3:5], (("empty",), ("empty",))]
OTHERS = [
    None, True, False, DEEP, MANY, ([],), ((),), ((), ((),)), ((), []), ([], ()), (None, True), (0, 1, 2), ("a", 1),
    (RULES[0], None), (RULES[0], "empty"), [RULES[0]], (RULES[0], ["empty"]), (("empty",), ()), (("a", ()), RULES[0]),
]
POOL = [
    *INTEGERS, *THINGS, *NO_STRINGS, *WORDS, *SETS, *LETTER_SETS, *NO_SETS, *LISTS, *LETTERS_LIKE, *NO_LETTERS_LIKE,
    *RULE, *NO_RULE, *TESTS, *NO_TEST, *WEIGHTS, *NO_WEIGHTS, *BOOKS, *NO_BOOK, *RULE_ROWS, *OTHERS,
]

# What stands above for other reasons, but is a set of things, or weights, too.
WORD_SETS = [
    ("drop",), ("half",), ("half", "left"), ("half", "right"), ("half", "middle"), ("empty",), ("empty", "left"),
    ("lower",), ("lower", "right"), ("put",), ("causes",), ("", "left"),
]
NUMBER_ROWS = [(1, 2)]

# For each function all values of the pool for which it is True.
RIGHT = {
    "is_integer": INTEGERS,
    "is_number": NUMBERS,
    "is_letter": LETTER,
    "is_thing": [*THINGS, *WORDS],
    "is_things": [*SETS, *LETTER_SETS, *WORD_SETS],
    "is_letters": LETTERS_LIKE,
    "is_rule": RULE,
    "is_rules": RULE_ROWS,
    "is_test": TESTS,
    "is_weights": [*WEIGHTS, *NUMBER_ROWS],
    "is_book": [*BOOKS, ((), ())],
}


class Kinds(Case):
    def test_each_function_is_true_for_just_its_values(self):
        for name, right in RIGHT.items():
            reprs = {repr(value) for value in right}
            for value in POOL:
                told = getattr(kinds, name)(value)
                self.assertIs(told, repr(value) in reprs, (name, value))

    def test_every_single_character(self):
        for code in [10, *[code for code in range(32, 127) if code != 37]]:
            sign = chr(code)
            small = sign in "abcdefghijklmnopqrstuvwxyz"
            self.assertIs(kinds.is_letter(sign), small, sign)
            self.assertIs(kinds.is_thing(sign), small, sign)
            self.assertIs(kinds.is_thing("a" + sign + "z"), small, sign)
            self.assertIs(kinds.is_things((sign,)), small, sign)
            self.assertIs(kinds.is_letters(((sign, ()),)), small, sign)
            self.assertIs(kinds.is_rule(("put", sign, "", "left")), small, sign)
            self.assertIs(kinds.is_test(("has", (sign,))), small, sign)

    def test_the_argument_is_passed_by_name_too(self):
        for name, right in RIGHT.items():
            self.assertIs(getattr(kinds, name)(thing=right[0]), True)
            self.assertIs(getattr(kinds, name)(thing=None), False)

    def test_what_is_handed_in_does_not_change(self):
        for name in RIGHT:
            given = [["a", ("b", [1])], [], ("drop", [1])]
            getattr(kinds, name)(given)
            getattr(kinds, name)((given, given))
            self.same(given, [["a", ("b", [1])], [], ("drop", [1])])

    def test_letters_and_rules_go_by_their_forms_alone(self):
        self.assertIs(kinds.is_letters((("a", ("a", "b")), ("b", ("a",)))), True)
        self.assertIs(kinds.is_rules((("put", "x", "yz", "left"),)), True)
        self.assertIs(kinds.is_book(((("a", ("a", "b")), ("b", ("a",))), ())), False)
        self.assertIs(kinds.is_book((LETTERS, (("put", "x", "yz", "left"),))), False)

    def test_a_rule_row_with_one_wrong_rule_is_none(self):
        for value in NO_RULE:
            self.assertIs(kinds.is_rules((RULES[0], value)), False, value)
            self.assertIs(kinds.is_rules((value, RULES[0])), False, value)
            self.assertIs(kinds.is_book((LETTERS, (RULES[0], value))), False, value)

    def test_letters_with_one_wrong_pair_are_none(self):
        for value in NO_LETTERS_LIKE:
            self.assertIs(kinds.is_letters(value), False, value)
            self.assertIs(kinds.is_book((value, ())), False, value)


if __name__ == "__main__":
    unittest.main()
