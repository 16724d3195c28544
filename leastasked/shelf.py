"""The shelf: a told number of places, kept by what is asked most."""

from leastasked.book import Book
from leastasked.checks import check_name, check_places


class Shelf(Book):
    def __init__(self, places, span, part):
        check_places(places)
        Book.__init__(self, span, part)
        self.places = places
        self.standing = {}
        self.gone = []

    def ask(self, name, weight=1):
        self.begin_ask(name, weight)
        met = name in self.standing
        if not met:
            self.take_in(name)
        self.grow(name, weight)
        return met

    def drop(self, name):
        self.begin_drop(name)
        stood = name in self.standing
        if stood:
            self.take_off(name, "dropped", self.counts[name], self.lasts[name])
        return stood

    def names(self):
        return self.in_order(self.standing)

    def has(self, name):
        check_name(name)
        return name in self.standing

    def goings(self):
        return list(self.gone)

    def take_in(self, name):
        if len(self.standing) == self.places:
            weakest = min(self.standing, key=self.strength)
            self.take_off(weakest, "crowded", self.counts[weakest], self.lasts[weakest])
        self.standing[name] = True

    def take_off(self, name, reason, count, last):
        self.standing.pop(name)
        self.gone.append((self.deeds, name, reason, count, last))

    def fade(self, name, last):
        if name in self.standing:
            self.take_off(name, "faded", 0, last)
