"""The book: time, deeds and counts, without places."""

from leastasked.checks import check_name, check_rule, check_steps, check_weight
from leastasked.rules import aged, ageings


class Book:
    def __init__(self, span, part):
        check_rule(span, part)
        self.span = span
        self.part = part
        self.time = 0
        self.deeds = 0
        # Both hold just the names whose count is above 0: a name that fades
        # is then as one that was never asked, and no ageing walks over it.
        self.counts = {}
        self.lasts = {}

    def ask(self, name, weight=1):
        self.begin_ask(name, weight)
        known = name in self.counts
        self.grow(name, weight)
        return known

    def rest(self, steps):
        check_steps(steps)
        self.deeds += 1
        return self.pass_time(steps)

    def drop(self, name):
        self.begin_drop(name)
        return False

    def time_now(self):
        return self.time

    def deeds_done(self):
        return self.deeds

    def count_of(self, name):
        check_name(name)
        return self.counts.get(name, 0)

    def last_of(self, name):
        check_name(name)
        return self.lasts.get(name)

    def names(self):
        return self.in_order(self.counts)

    def in_order(self, names):
        return sorted(names, key=self.strength)

    def strength(self, name):
        return (self.counts[name], self.lasts[name])

    def begin_ask(self, name, weight):
        check_name(name)
        check_weight(weight)
        self.deeds += 1
        self.pass_time(1)

    def grow(self, name, weight):
        self.counts[name] = self.counts.get(name, 0) + weight
        self.lasts[name] = self.deeds

    def begin_drop(self, name):
        check_name(name)
        self.deeds += 1

    def pass_time(self, steps):
        times = ageings(self.span, self.time, self.time + steps)
        self.time += steps
        if times > 0:
            self.age_counts(times)
        return times

    def age_counts(self, times):
        faded = []
        for name in list(self.counts):
            count = aged(self.counts[name], self.part, times)
            if count > 0:
                self.counts[name] = count
            else:
                faded.append((self.lasts[name], name))
                self.counts.pop(name)
                self.lasts.pop(name)
        # The last askings all differ, so they alone settle the order.
        for last, name in sorted(faded):
            self.fade(name, last)

    def fade(self, name, last):
        # Nothing stands on a book; a shelf and a row let the name go here.
        pass
