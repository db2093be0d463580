"""What is an event of a trial by form."""

from firstfailing.kinds import is_number, is_rule, is_thing
from firstfailing.stepping import MANNERS


def is_event(thing):
    """Whether it is an event by form."""
    if not isinstance(thing, tuple) or len(thing) < 2 or not isinstance(thing[0], str):
        return False
    word = thing[0]
    if word == "told":
        return len(thing) == 3 and is_thing(thing[1]) and isinstance(thing[2], bool)
    if word == "rule":
        return len(thing) == 3 and is_rule(thing[1]) and is_number(thing[2])
    return len(thing) == 2 and is_part(word, thing[1])


def is_part(word, part):
    """Whether it is the one part of an event with this word."""
    if word == "answer":
        return isinstance(part, bool)
    if word == "norule":
        return is_number(part)
    if word == "start":
        return is_thing(part)
    return word == "manner" and part in MANNERS
