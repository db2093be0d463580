"""Of which kind a value is. All functions accept any value."""

SIDES = ("left", "right")
TEST_WORDS = ("causes", "only", "but", "has")


def is_integer(thing):
    """Whether it is an int that is not a bool."""
    return isinstance(thing, int) and not isinstance(thing, bool)


def is_number(thing):
    """Whether it is an integer from 0 on."""
    return is_integer(thing) and thing >= 0


def is_letter(thing):
    """Whether it is one lowercase letter."""
    return is_thing(thing) and len(thing) == 1


def is_thing(thing):
    """Whether it is a string of lowercase letters."""
    return isinstance(thing, str) and all(["a" <= letter <= "z" for letter in thing])


def is_things(thing):
    """Whether it is a set of things."""
    return isinstance(thing, tuple) and all([is_thing(part) for part in thing]) and is_rising(thing)


def is_letters(thing):
    """Whether it is a tuple of pairs of a letter and a set of letters, ascending by the first ones."""
    if not isinstance(thing, tuple) or not all([is_entry(entry) for entry in thing]):
        return False
    return is_rising([entry[0] for entry in thing])


def is_rule(thing):
    """Whether it is a rule, of any letters."""
    if not isinstance(thing, tuple) or len(thing) == 0 or not isinstance(thing[0], str):
        return False
    word = thing[0]
    if word == "drop":
        return len(thing) == 3 and is_count(thing[1]) and is_side(thing[2])
    if word in ("half", "lower"):
        return len(thing) == 2 and is_side(thing[1])
    if word == "put":
        return len(thing) == 4 and is_putting(thing[1], thing[2]) and is_side(thing[3])
    return word == "empty" and len(thing) == 1


def is_rules(thing):
    """Whether it is a tuple of rules."""
    return isinstance(thing, tuple) and all([is_rule(rule) for rule in thing])


def is_test(thing):
    """Whether it is a pair of a word and a set of things, of single letters for the word has."""
    if not is_pair(thing) or not isinstance(thing[0], str) or thing[0] not in TEST_WORDS:
        return False
    if thing[0] == "has":
        return is_letter_set(thing[1])
    return is_things(thing[1])


def is_weights(thing):
    """Whether it is a tuple of numbers from 1 on."""
    return isinstance(thing, tuple) and all([is_count(part) for part in thing])


def is_book(thing):
    """Whether it is a book."""
    return book_fault(thing) is None


def is_pair(thing):
    """Whether it is a tuple of two values."""
    return isinstance(thing, tuple) and len(thing) == 2


def is_rising(words):
    """Whether strings ascend, none of them twice."""
    return all([words[k] < words[k + 1] for k in range(len(words) - 1)])


def is_count(thing):
    """Whether it is a number from 1 on."""
    return is_integer(thing) and thing >= 1


def is_side(thing):
    """Whether it is the word of a side."""
    return isinstance(thing, str) and thing in SIDES


def is_letter_set(thing):
    """Whether it is a set of letters."""
    return is_things(thing) and all([len(part) == 1 for part in thing])


def is_entry(thing):
    """Whether it is a pair of a letter and a set of letters."""
    return is_pair(thing) and is_letter(thing[0]) and is_letter_set(thing[1])


def is_putting(letter, word):
    """Whether a put rule can put this word for this letter."""
    return is_letter(letter) and is_thing(word) and word != letter


def is_rule_of(thing, names):
    """Whether it is a rule, and the letters that it names are among these."""
    if not is_rule(thing):
        return False
    return thing[0] != "put" or all([letter in names for letter in thing[1] + thing[2]])


def letters_reached(lessers, letter):
    """The set of the letters to which one leads, by a table of the directly lesser ones."""
    reached = {}
    ahead = list(lessers[letter])
    while ahead:
        lesser = ahead.pop()
        if lesser not in reached:
            reached[lesser] = True
            ahead.extend(lessers[lesser])
    return tuple(sorted(list(reached)))


def book_fault(thing):
    """Why a value is no book: a word and a place; None for a book."""
    # This stands here, not beside lets_book, because is_book needs it, and lets_book the other kinds.
    if not is_pair(thing) or not isinstance(thing[0], tuple) or not isinstance(thing[1], tuple):
        return ("shape", -1)
    letters, rules = thing
    fault = letters_fault(letters)
    if fault is not None:
        return fault
    names = [entry[0] for entry in letters]
    for r, rule in enumerate(rules):
        if not is_rule_of(rule, names):
            return ("rule", r)
    return None


def letters_fault(letters):
    """Why a tuple cannot be that of the letters of a book: a word and a place; None if it can."""
    for i, entry in enumerate(letters):
        if not is_entry(entry) or (i > 0 and entry[0] <= letters[i - 1][0]):
            return ("letter", i)
    lessers = dict(letters)
    for i, (letter, direct) in enumerate(letters):
        if letter in direct or not all([lesser in lessers for lesser in direct]):
            return ("lesser", i)
    for i, (letter, _) in enumerate(letters):
        if letter in letters_reached(lessers, letter):
            return ("ring", i)
    return None
