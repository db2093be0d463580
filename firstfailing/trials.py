"""A trial: shrinking that asks, is answered, remembers, and may change its rules."""

from firstfailing.bookchanges import with_rule, without_rule
from firstfailing.bookchecker import lets_book
from firstfailing.bookparts import comes_from, downs_of, has_letters, letters_of, need_thing
from firstfailing.booktexts import thing_word
from firstfailing.errors import InvalidEvent, NothingToUndo, NotUsable
from firstfailing.eventtexts import event_line, fails_word
from firstfailing.kinds import is_rule_of
from firstfailing.rankings import ranking_from
from firstfailing.stepping import does_fall, led_steps, need_falling, need_manner
from firstfailing.trialevents import is_event


class Trial:
    """Shrinking of a thing, led by events."""

    MOST = 40

    def __init__(self, book, x, *, manner="again"):
        lets_book(book)
        need_thing(book, x, "x")
        need_manner(manner, "manner")
        need_falling(book)
        self._beginning = ("trial", book, x, manner)
        self._events = ()
        # One more than there are events: that of the beginning, and that behind each of them.
        self._states = (state_of(book, x, manner),)
        self._calls = 0

    @property
    def book_now(self):
        """The book."""
        return self._states[-1]["book"]

    @property
    def manner_now(self):
        """The manner."""
        return self._states[-1]["manner"]

    @property
    def thing_now(self):
        """The present thing."""
        return self._states[-1]["walk"][-1]

    @property
    def question(self):
        """The thing that is asked, None if the trial is done."""
        return self._states[-1]["question"]

    @property
    def steps_now(self):
        """All steps of the present thing, in the order in which they are gone through."""
        return tuple([step for step, _ in self._states[-1]["steps"]])

    @property
    def walk_now(self):
        """The things that were the present one since the last start, or the beginning."""
        return self._states[-1]["walk"]

    @property
    def tries_now(self):
        """How many events are answers."""
        return self._states[-1]["tries"]

    @property
    def failing(self):
        """The set of the least things that were told to fail."""
        return self._states[-1]["failing"]

    @property
    def passing(self):
        """The set of the greatest things that were told to pass."""
        return self._states[-1]["passing"]

    def ends_left(self):
        """The set of the things in which the trial can still end by answers alone."""
        return tuple(sorted(ends_of(self._states[-1])))

    def answer(self, it_fails):
        """The question was told to fail, or to pass."""
        return self.go(("answer", it_fails))

    def told(self, thing, it_fails):
        """The thing was told to fail, or to pass."""
        return self.go(("told", thing, it_fails))

    def add_rule(self, rule, at):
        """The rule comes in ahead of the one with this index."""
        return self.go(("rule", rule, at))

    def take_rule(self, k):
        """Rule k is left out."""
        return self.go(("norule", k))

    def start(self, thing):
        """The thing was told to fail, and is the present one."""
        return self.go(("start", thing))

    def set_manner(self, word):
        """The manner is this word."""
        return self.go(("manner", word))

    def go(self, event):
        """Applies an event; tells the question behind it."""
        self._calls = self._calls + 1
        self._take((event,), False)
        return self.question

    def tried(self, *events):
        """The present thing, the question and the tries behind these events, of which none is applied."""
        states, reason = states_behind(self._states[-1], len(self._events), events)
        if reason is not None:
            raise InvalidEvent(events[len(states)], reason)
        state = states[-1] if states else self._states[-1]
        return (state["walk"][-1], state["question"], state["tries"])

    def undo(self):
        """Takes back the last event; tells it."""
        self._calls = self._calls + 1
        if len(self._events) == 0:
            raise NothingToUndo(0)
        event = self._events[-1]
        self._events = self._events[:-1]
        self._states = self._states[:-1]
        return event

    def do_all(self, *events, keep=False):
        """Applies events; behind an error those before it are kept, or taken back."""
        self._calls = self._calls + 1
        if not isinstance(keep, bool):
            raise NotUsable("keep", -1)
        self._take(events, keep)
        return len(events)

    def tally(self):
        """The numbers of started and of finished operations."""
        # No operation is asked for the tally while it goes on, so both are always equal.
        return (self._calls, self._calls)

    def barred(self, event):
        """The reason why any value is not possible as an event, None if it is."""
        return reason_against(self._states[-1], len(self._events), event)

    def table(self):
        """A line for each step of the present thing."""
        state = self._states[-1]
        return [table_line(state, step, rule) for step, rule in state["steps"]]

    def log(self):
        """The beginning, and the events."""
        return (self._beginning,) + self._events

    def _take(self, events, keep):
        """Applies events, none of them, or those before it, if one is not possible."""
        states, reason = states_behind(self._states[-1], len(self._events), events)
        if reason is None or keep:
            self._states = self._states + states
            self._events = self._events + events[:len(states)]
        if reason is not None:
            raise InvalidEvent(events[len(states)], reason)

    def __call__(self, event):
        return self.go(event)

    def __getitem__(self, at):
        state = self._states[-1]
        need_thing(state["book"], at, "thing")
        return known_of(state, at)

    def __setitem__(self, at, worth):
        self.go(("told", at, worth))

    def __contains__(self, x):
        state = self._states[-1]
        return has_letters(state["book"], x) and known_of(state, x) is True

    def __iter__(self):
        return iter(self._events)

    def __len__(self):
        return len(self._events)

    def __eq__(self, other):
        return (
            isinstance(other, Trial)
            and self._beginning == other._beginning
            and self._events == other._events
        )

    def __str__(self):
        return str(" / ".join([event_line(event) for event in self._events]) or "-")


def trial_after(log):
    """The trial that a log leads to, with nothing counted."""
    _, book, x, manner = log[0]
    trial = Trial(book, x, manner=manner)
    trial._take(log[1:], False)
    return trial


def state_of(book, x, manner):
    """How a trial stands at the beginning, when x was told to fail."""
    state = {"book": book, "manner": manner, "failing": (), "passing": (), "tries": 0}
    return settled(started(state, x))


def started(state, thing):
    """The state in which the thing was told to fail and is the present one."""
    told = state_told(state, thing, True)
    return {**told, "walk": (thing,), "rule": 0}


def state_told(state, thing, it_fails):
    """The state in which the thing was told to fail, or to pass."""
    downs = downs_of(state["book"])
    if it_fails:
        told = sorted(set(state["failing"] + (thing,)))
        least = [u for u in told if not any([v != u and comes_from(downs, v, u) for v in told])]
        return {**state, "failing": tuple(least)}
    told = sorted(set(state["passing"] + (thing,)))
    greatest = [u for u in told if not any([v != u and comes_from(downs, u, v) for v in told])]
    return {**state, "passing": tuple(greatest)}


def settled(state):
    """The state behind all steps to things that are known to fail, with its steps and its question."""
    walk = state["walk"]
    rule = state["rule"]
    while True:
        steps = led_steps(state["book"], walk[-1], rule if state["manner"] == "on" else 0)
        left = [pair for pair in steps if known_of(state, pair[0]) is not False]
        if not left or known_of(state, left[0][0]) is None:
            question = left[0][0] if left else None
            return {**state, "walk": walk, "rule": rule, "steps": steps, "question": question}
        step, rule = left[0]
        walk = walk + (step,)


def known_of(state, thing):
    """True if the thing is known to fail, False if it is known to pass, None otherwise."""
    downs = downs_of(state["book"])
    if any([comes_from(downs, cause, thing) for cause in state["failing"]]):
        return True
    if any([comes_from(downs, thing, other) for other in state["passing"]]):
        return False
    return None


def states_behind(state, many, events):
    """The states behind events, of which so many came before, and the reason against the first that is barred."""
    states = []
    for event in events:
        reason = reason_against(state, many + len(states), event)
        if reason is not None:
            return (tuple(states), reason)
        state = settled(state_behind(state, event))
        states.append(state)
    return (tuple(states), None)


def state_behind(state, event):
    """The state that a possible event leads to, ahead of all steps to known things."""
    word = event[0]
    if word == "answer":
        told = state_told(state, state["question"], event[1])
        return {**told, "tries": state["tries"] + 1}
    if word == "told":
        return state_told(state, event[1], event[2])
    if word == "start":
        return started(state, event[1])
    if word == "manner":
        return {**state, "manner": event[1], "rule": 0}
    if word == "rule":
        return {**state, "book": with_rule(state["book"], event[1], at=event[2]), "rule": 0}
    return {**state, "book": without_rule(state["book"], event[1]), "rule": 0}


def reason_against(state, many, event):
    """The first reason why any value is no possible event behind so many others, None if it is one."""
    if not is_event(event):
        return "shape"
    if many >= Trial.MOST:
        return "full"
    word = event[0]
    if word == "answer":
        return "done" if state["question"] is None else None
    if word == "told":
        return reason_against_told(state, event[1], event[2])
    if word == "start":
        return reason_against_start(state, event[1])
    if word == "manner":
        return "same" if event[1] == state["manner"] else None
    if word == "rule":
        return reason_against_rule(state["book"], event[1], event[2])
    return "at" if event[1] >= len(state["book"][1]) else None


def reason_against_told(state, thing, it_fails):
    """The reason why the thing cannot be told to fail, or to pass, None if it can."""
    if not has_letters(state["book"], thing):
        return "thing"
    known = known_of(state, thing)
    if known is None:
        return None
    return "same" if known == it_fails else "against"


def reason_against_start(state, thing):
    """The reason why the thing cannot be started from, None if it can."""
    if not has_letters(state["book"], thing):
        return "thing"
    if known_of(state, thing) is False:
        return "against"
    return "same" if thing == state["walk"][-1] else None


def reason_against_rule(book, rule, at):
    """The reason why a rule cannot come in ahead of the one with this index, None if it can."""
    if at > len(book[1]):
        return "at"
    if not is_rule_of(rule, letters_of(book)):
        return "letter"
    return None if does_fall(book, rule) else "falling"


def ends_of(state):
    """The ends of shrinking from the present thing by all rising tests that agree with what is known."""
    downs = downs_of(state["book"])
    ranking = ranking_from(state["book"], state["walk"][-1], state["rule"], state["manner"])
    ends = []
    for k, thing in enumerate(ranking):
        known = known_of(state, thing)
        # A test by which it fails, and all that is known to fail, but nothing ahead of it.
        if known is not False and not any([comes_from(downs, thing, ahead) for ahead in ranking[:k]]):
            ends.append(thing)
        if known is True:
            break
    return ends


def table_line(state, step, rule):
    """A step, the number of the rule whose result it is, and what is known of it."""
    known = known_of(state, step)
    word = "-" if known is None else fails_word(known)
    return f"{thing_word(step):<6} {rule:>2} {word}"
