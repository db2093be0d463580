"""How many tries shrinking makes at most."""

from firstfailing.anyends import steps_from
from firstfailing.bookparts import letters_of, need_thing, things_at_most
from firstfailing.ending import least_weights, need_ending
from firstfailing.stepping import need_falling, need_manner, need_notes
from firstfailing.walking import tries_of


def most_tries(book, x):
    """The most tries of shrinking from x, over all tests by which x fails."""
    need_thing(book, x, "x")
    need_ending(book)
    return longest_from(steps_from(book, x), x, ())[0]


def most_test(book, x):
    """A test by which x fails and shrinking from x makes the most tries."""
    need_thing(book, x, "x")
    need_ending(book)
    way = longest_from(steps_from(book, x), x, ())[1]
    return ("only", tuple(sorted(way)))


def tries_bound(book, x):
    """A number of tries that shrinking from x never exceeds, by the least weights."""
    need_thing(book, x, "x")
    weight_of = dict(zip(letters_of(book), least_weights(book)))
    total = sum([weight_of[letter] for letter in x])
    return sum([bound_by(book, rule, total) for rule in book[1]])


def most_tries_rising(book, x, *, manner="again", notes=False):
    """The most tries of shrinking from x in this way, over all rising tests by which x fails."""
    need_thing(book, x, "x")
    need_manner(manner, "manner")
    need_notes(notes)
    need_falling(book)
    # By a test by which shrinking ends in z it makes the tries that it makes by the cause z alone.
    return max([
        tries_of(book, ("causes", (z,)), x, manner=manner, notes=notes) for z in things_at_most(book, x)
    ])


def longest_from(steps, thing, refused):
    """The most tries from a thing on, where these others pass, and the things that shrinking goes to then."""
    # That just the things on its way fail is as good as any other test: what else fails is not asked ahead of them.
    tries = len(steps[thing])
    way = (thing,)
    for k, step in enumerate(steps[thing]):
        if step not in refused:
            more, rest = longest_from(steps, step, refused + steps[thing][:k])
            if k + 1 + more > tries:
                tries = k + 1 + more
                way = (thing,) + rest
    return (tries, way)


def bound_by(book, rule, total):
    """The sum of the most results of a rule for things of each weight up to this one."""
    if rule[0] in ("half", "empty"):
        return total + 1
    if rule[0] == "drop":
        return sum_to(max(total - rule[1] + 1, 0))
    if rule[0] == "put":
        return sum_to(total)
    return sum_to(total) * max([len(lessers) for _, lessers in book[0]], default=0)


def sum_to(n):
    """The sum of the numbers up to n."""
    return n * (n + 1) // 2
