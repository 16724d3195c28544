"""The row: one history, kept for shelves of all numbers of places at once."""

from leastasked.book import Book
from leastasked.checks import check_many, check_places


class Row(Book):
    def __init__(self, span, part):
        Book.__init__(self, span, part)
        # Spot 1 is the first of the line.
        self.line = []
        # How many asks were answered with each spot.
        self.met_at = {}

    def ask(self, name, weight=1):
        self.begin_ask(name, weight)
        spot = self.spot_of(name)
        if spot is not None:
            self.met_at[spot] = self.met_at.get(spot, 0) + 1
            self.leave(spot)
        self.bring_in(name)
        self.grow(name, weight)
        return spot

    def drop(self, name):
        self.begin_drop(name)
        spot = self.spot_of(name)
        if spot is None:
            return False
        self.leave(spot)
        return True

    def names(self):
        return self.names_on(self.line)

    def spots(self):
        return list(self.line)

    def names_at(self, places):
        check_places(places)
        return self.names_on(self.line[:places])

    def met_by(self, places):
        check_places(places)
        return sum([self.met_at[spot] for spot in self.met_at if spot <= places])

    def enough(self, many):
        check_many(many)
        if many == 0:
            return 1
        met = 0
        for spot in sorted(self.met_at):
            met += self.met_at[spot]
            if met >= many:
                return spot
        return None

    def names_on(self, line):
        return self.in_order([name for name in line if name is not None])

    def spot_of(self, name):
        if name in self.line:
            return self.line.index(name) + 1
        return None

    def leave(self, spot):
        self.line[spot - 1] = None
        # A name that comes behind the last spot rests just where a None at
        # the end would have been, so these need not wait for the deed's end.
        while self.line and self.line[-1] is None:
            self.line.pop()

    def bring_in(self, name):
        coming = name
        at = 0
        while at < len(self.line) and self.line[at] is not None:
            there = self.line[at]
            # At spot 1 the asked name stays, however weak it is.
            if at == 0 or self.strength(there) < self.strength(coming):
                self.line[at] = coming
                coming = there
            at += 1
        if at < len(self.line):
            self.line[at] = coming
        else:
            self.line.append(coming)

    def fade(self, name, last):
        spot = self.spot_of(name)
        if spot is not None:
            self.leave(spot)
