"""Whether two falling books end alike from a thing by all rising tests."""

from firstfailing.bookparts import need_other, need_thing
from firstfailing.contests import order_by_contests, parting_of
from firstfailing.errors import NotUsable
from firstfailing.rankings import ranking_of
from firstfailing.stepping import is_falling, need_falling, need_manner


def parting_causes(book, other, x, *, manner="again", other_manner="again"):
    """The least set of one or two causes by which the two end in unlike things from x, None if there is none."""
    need_both(book, other, x, manner, other_manner)
    ranking = ranking_of(book, x, manner=manner)
    return parting_of(book, x, ranking, ranking_of(other, x, manner=other_manner))


def alike_paper(book, other, x, *, manner="again", other_manner="again"):
    """The paper that the two end alike from x by all rising tests, or causes by which they do not."""
    causes = parting_causes(book, other, x, manner=manner, other_manner=other_manner)
    if causes is not None:
        return ("causes", causes)
    # No contest goes otherwise by the other book, so what is an order for the one is one for both.
    return ("alike", order_by_contests(book, x, manner=manner))


def need_both(book, other, x, manner, other_manner):
    """Refuses what are not two falling books of the same letters, a thing of these, and a manner for each book."""
    need_other(book, other)
    if not is_falling(other):
        raise NotUsable("other", -1)
    need_thing(book, x, "x")
    need_manner(manner, "manner")
    need_manner(other_manner, "other_manner")
    need_falling(book)
