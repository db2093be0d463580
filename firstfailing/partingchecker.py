"""The checker of papers that two falling books end alike by all rising tests, or do not."""

from firstfailing.bookparts import comes_from, downs_of, has_letters
from firstfailing.contests import first_of
from firstfailing.errors import InvalidPaper
from firstfailing.kinds import is_pair, is_things
from firstfailing.orderchecker import check_order
from firstfailing.partings import need_both
from firstfailing.rankings import ranking_of


def lets_parting(book, other, x, thing, *, manner="again", other_manner="again"):
    """Whether the two books end alike from x, by a paper; refuses any value that does not show it."""
    need_both(book, other, x, manner, other_manner)
    if not is_pair(thing) or thing[0] not in ("causes", "alike"):
        raise InvalidPaper("shape", -1)
    word, told = thing
    if word == "causes":
        rankings = (ranking_of(book, x, manner=manner), ranking_of(other, x, manner=other_manner))
        check_causes(book, x, told, rankings)
        return False
    if not isinstance(told, tuple):
        raise InvalidPaper("shape", -1)
    check_order(book, x, told, manner, "contest")
    check_order(other, x, told, other_manner, "other")
    return True


def check_causes(book, x, causes, rankings):
    """Refuses what are no causes at most x for which the two rankings have unlike first things."""
    if not is_things(causes) or len(causes) == 0 or not all([has_letters(book, cause) for cause in causes]):
        raise InvalidPaper("shape", -1)
    downs = downs_of(book)
    for k, cause in enumerate(causes):
        if not comes_from(downs, cause, x):
            raise InvalidPaper("cause", k)
    ends = [first_of(downs, ranking, causes) for ranking in rankings]
    if ends[0] == ends[1]:
        raise InvalidPaper("same", -1)
