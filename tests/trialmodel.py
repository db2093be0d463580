"""A slow trial, close to the words of points [62] to [73], with which the trials are compared."""

import itertools

from tests.support import at_most, event_row, falls, names, shrunk, steps_on


class Model:
    """A trial that keeps all that was told, and finds all else anew each time."""

    def __init__(self, book, x, manner="again"):
        self.beginning = ("trial", book, x, manner)
        self.events = []
        self.replay()

    def replay(self):
        """Begins anew, and goes through all events."""
        _, self.book, self.thing, self.manner = self.beginning
        self.told = [(self.thing, True)]
        self.rule, self.walk = 0, [self.thing]
        self.go_on()
        for event in self.events:
            self.change(event)

    def known(self, thing):
        """Whether the thing is known to fail, or to pass; None if neither."""
        if any(it_fails and other in at_most(self.book, thing) for other, it_fails in self.told):
            return True
        if any(not it_fails and thing in at_most(self.book, other) for other, it_fails in self.told):
            return False
        return None

    def steps(self):
        """All steps of the present thing, each with its rule."""
        return steps_on(self.book, self.thing, self.rule if self.manner == "on" else 0)

    def question(self):
        """The thing that is asked, None if the trial is done."""
        left = [step for step, _ in self.steps() if self.known(step) is not False]
        return left[0] if left else None

    def go_on(self):
        """Goes at once to what is known to fail."""
        while self.question() is not None and self.known(self.question()) is True:
            step = self.question()
            self.rule = dict(self.steps())[step]
            self.thing = step
            self.walk.append(step)

    def change(self, event):
        """What a possible event does."""
        word, parts = event[0], event[1:]
        if word == "answer":
            self.told.append((self.question(), parts[0]))
        elif word == "told":
            self.told.append(parts)
        elif word == "start":
            self.told.append((parts[0], True))
            self.thing, self.walk = parts[0], [parts[0]]
        elif word == "manner":
            self.manner = parts[0]
        elif word == "rule":
            rules = list(self.book[1])
            rules.insert(parts[1], parts[0])
            self.book = (self.book[0], tuple(rules))
        else:
            rules = list(self.book[1])
            del rules[parts[0]]
            self.book = (self.book[0], tuple(rules))
        if word in ("rule", "norule", "manner", "start"):
            self.rule = 0
        self.go_on()

    def reason(self, event):
        """Why an event by form is not possible, None if it is."""
        word, parts = event[0], event[1:]
        if len(self.events) >= 40:
            return "full"
        if word == "answer" and self.question() is None:
            return "done"
        if word in ("told", "start"):
            if any(letter not in names(self.book) for letter in parts[0]):
                return "thing"
            it_fails = word == "start" or parts[1]
            if self.known(parts[0]) == (not it_fails):
                return "against"
            if word == "told" and self.known(parts[0]) is not None:
                return "same"
            if word == "start" and parts[0] == self.thing:
                return "same"
        if word == "norule" and parts[0] not in range(len(self.book[1])):
            return "at"
        if word == "rule":
            if parts[1] > len(self.book[1]):
                return "at"
            if parts[0][0] == "put" and any(letter not in names(self.book) for letter in parts[0][1] + parts[0][2]):
                return "letter"
            if not falls(self.book, parts[0]):
                return "falling"
        if word == "manner" and parts[0] == self.manner:
            return "same"
        return None

    def go(self, event):
        """Applies a possible event."""
        self.events.append(event)
        self.change(event)

    def undo(self):
        """Takes back the last event."""
        self.events.pop()
        self.replay()

    def failing(self):
        """The things told to fail that are at least no other one of them."""
        things = {thing for thing, it_fails in self.told if it_fails}
        return tuple(sorted(u for u in things if not any(v != u and v in at_most(self.book, u) for v in things)))

    def passing(self):
        """The things told to pass that are at most no other one of them."""
        things = {thing for thing, it_fails in self.told if not it_fails}
        return tuple(sorted(u for u in things if not any(v != u and u in at_most(self.book, v) for v in things)))

    def ends(self, most):
        """The ends by all rising tests that agree with what is known; None if there are too many things for this."""
        things = [thing for thing in at_most(self.book, self.thing) if self.known(thing) is None]
        if len(things) > most:
            return None
        found = set()
        for many in range(len(things) + 1):
            for row in itertools.combinations(things, many):
                # Each rising test is told by what fails by it of the things that are not known.
                if all(v in row or v not in things for u in row for v in self.above(u)):
                    failing = {u: True for u in row}
                    walk = shrunk(
                        self.book, self.thing, lambda u: failing.get(u, self.known(u) is True), self.manner, rule=self.rule,
                    )
                    found.add(walk[-1][0])
        return tuple(sorted(found))

    def above(self, u):
        """The things at most the present one that are at least u."""
        return [v for v in at_most(self.book, self.thing) if u in at_most(self.book, v)]

    def table(self):
        """A line for each step."""
        word = {True: "fails", False: "passes", None: "-"}
        return [f"{step or '-'}".ljust(6) + " " + str(k).rjust(2) + " " + word[self.known(step)] for step, k in self.steps()]

    def shown(self):
        """All that a trial shows, but the ends that are left."""
        return {
            "book_now": self.book,
            "manner_now": self.manner,
            "thing_now": self.thing,
            "question": self.question(),
            "steps_now": tuple(step for step, _ in self.steps()),
            "walk_now": tuple(self.walk),
            "tries_now": len([event for event in self.events if event[0] == "answer"]),
            "failing": self.failing(),
            "passing": self.passing(),
            "table": self.table(),
            "log": (self.beginning, *self.events),
            "str": " / ".join(event_row(event) for event in self.events) or "-",
            "iter": list(self.events),
            "len": len(self.events),
        }


def shown_by(trial):
    """All that a trial shows, but the ends that are left."""
    names_of = (
        "book_now", "manner_now", "thing_now", "question", "steps_now", "walk_now", "tries_now", "failing", "passing",
    )
    return {
        **{name: getattr(trial, name) for name in names_of},
        "table": trial.table(),
        "log": trial.log(),
        "str": str(trial),
        "iter": list(trial),
        "len": len(trial),
    }
