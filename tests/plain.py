"""What the tests share: histories made by a plain rule, and a plain reckoning of them by the document's points.

A history is a list of deeds: ("ask", name, weight), ("rest", steps) or ("drop", name).
Nothing here uses the program: what it tells is held against what is reckoned here.
"""

import itertools

# (span, part, number of names, weights, steps of rests)
SHAPES = (
    (1, 2, 3, (1, 2, 3, 9), (0, 1, 2)),
    (1, 2, 8, (1, 4, 16, 100), (0, 1, 3, 5)),
    (2, 3, 5, (1, 2, 5, 30), (0, 1, 2, 3, 9)),
    (3, 2, 6, (1, 1, 2), (0, 1, 2, 3, 4)),
    (5, 2, 7, (1, 1, 1, 6), (0, 1, 4, 5, 6, 21)),
    (7, 10, 9, (1, 9, 10, 11, 99, 100), (0, 6, 7, 8)),
    (13, 2, 12, (1,), (0, 1, 12, 13)),
    (40, 3, 15, (1, 2), (0, 1, 39)),
    (10 ** 6, 2, 10, (1, 2), (0, 1, 1000)),
    (2, 10 ** 30, 5, (1, 10 ** 30 - 1, 10 ** 30), (0, 1, 2)),
    (4, 2, 6, (1, 10 ** 9, 10 ** 30), (0, 3, 8, 90, 10 ** 30)),
    (10 ** 20, 2, 7, (1, 3, 10 ** 30), (0, 1, 10 ** 20 - 1, 10 ** 20, 10 ** 20 + 1, 10 ** 30)),
    (10 ** 20, 10 ** 30, 6, (1, 10 ** 30), (0, 10 ** 20 - 40, 10 ** 20, 10 ** 30)),
)


def numbers(seed):
    state = seed
    while True:
        state = (state * 6364136223846793005 + 1442695040888963407) % 2 ** 64
        yield state >> 33


def pick(rule, things):
    return things[next(rule) % len(things)]


def history(seed, shape, length, busy=8):
    """Of ten deeds about so many are asks, the others rests and drops."""
    span, part, many, weights, rests = shape
    rule = numbers(seed)
    # The first names stand in the list more often than the later ones, so that some are asked more.
    names = [f"n{i}" for i in range(many) for again in range(1 + 2 * (many - i) // many)]
    deeds = []
    for step in range(length):
        kind = next(rule) % 10
        if kind < busy:
            deeds.append(("ask", pick(rule, names), pick(rule, weights)))
        elif kind % 2:
            deeds.append(("rest", pick(rule, rests)))
        else:
            deeds.append(("drop", pick(rule, names)))
    return deeds


def histories(length=120, seeds=(1, 2, 3)):
    for number, shape in enumerate(SHAPES):
        for seed in seeds:
            yield shape[0], shape[1], history(100 * number + seed, shape, length)


def names_in(deeds):
    return sorted({deed[1] for deed in deeds if deed[0] != "rest"})


def do(thing, deed):
    return getattr(thing, deed[0])(*deed[1:])


class State:
    """How things are when one deed is answered, and what comes of its step of time."""

    def __init__(self, number, deed, time, times, counts, lasts, faded):
        self.number, self.deed, self.time, self.times = number, deed, time, times
        self.counts, self.lasts, self.faded = dict(counts), dict(lasts), faded

    def weaker(self, one, other):
        if self.counts[one] != self.counts[other]:
            return one if self.counts[one] < self.counts[other] else other
        return one if self.lasts[one] < self.lasts[other] else other

    def weakest(self, names):
        weakest = names[0]
        for name in names[1:]:
            weakest = self.weaker(weakest, name)
        return weakest

    def in_order(self, names):
        left, told = list(names), []
        while left:
            told.append(self.weakest(left))
            left.remove(told[-1])
        return told


def steps_of(deed):
    return {"ask": 1, "drop": 0}.get(deed[0], deed[1])


def reckon(deeds, span, part):
    """Of each deed the state in which it is answered, and the one behind it."""
    time, counts, lasts, told = 0, {}, {}, []
    for number, deed in enumerate(deeds, start=1):
        upto = time + steps_of(deed)
        multiple = (time // span + 1) * span
        times = (upto - multiple) // span + 1 if multiple <= upto else 0
        faded = []
        # One ageing after the other, as long as there is a count to age.
        while multiple <= upto and any(counts.values()):
            for name in [name for name in counts if counts[name] > 0]:
                counts[name] //= part
                if counts[name] == 0:
                    faded.append((lasts[name], name))
                    lasts[name] = None
            multiple += span
        time = upto
        answering = State(number, deed, time, times, counts, lasts, sorted(faded))
        if deed[0] == "ask":
            counts[deed[1]] = counts.get(deed[1], 0) + deed[2]
            lasts[deed[1]] = number
        told.append((answering, State(number, deed, time, times, counts, lasts, [])))
    return told


def reckon_shelf(deeds, places, span, part):
    """Of each deed (answer, names that stand there, all goings so far)."""
    standing, goings, told = [], [], []
    for answering, behind in reckon(deeds, span, part):
        deed, answer = answering.deed, answering.times
        for last, name in answering.faded:
            if name in standing:
                standing.remove(name)
                goings.append((answering.number, name, "faded", 0, last))
        if deed[0] != "rest":
            answer = deed[1] in standing
        going = None
        if deed[0] == "drop" and answer:
            going = (deed[1], "dropped")
        if deed[0] == "ask" and not answer:
            if len(standing) == places:
                going = (answering.weakest(standing), "crowded")
            standing.append(deed[1])
        if going:
            name, reason = going
            standing.remove(name)
            goings.append((answering.number, name, reason, answering.counts[name], answering.lasts[name]))
        told.append((answer, behind.in_order(standing), list(goings)))
    return told


def come_to(spots, name, state):
    """Point 10: a name comes to spot 1, and one of two goes on until all has come to rest."""
    for spot in itertools.count():
        if spot == len(spots):
            spots.append(None)
        if spots[spot] is None:
            spots[spot] = name
            return
        onward = spots[spot] if spot == 0 else state.weaker(spots[spot], name)
        if onward == spots[spot]:
            spots[spot], name = name, onward


def reckon_row(deeds, span, part):
    """Of each deed (answer, spots behind it)."""
    spots, told = [], []
    for answering, behind in reckon(deeds, span, part):
        deed, answer = answering.deed, answering.times
        faded = [name for last, name in answering.faded]
        spots = [None if name in faded else name for name in spots]
        if deed[0] != "rest":
            on_spot = deed[1] in spots
            answer = on_spot
            if deed[0] == "ask":
                answer = spots.index(deed[1]) + 1 if on_spot else None
            spots = [None if name == deed[1] else name for name in spots]
        if deed[0] == "ask":
            come_to(spots, deed[1], answering)
        while spots and spots[-1] is None:
            spots.pop()
        told.append((answer, list(spots)))
    return told


def all_told(thing, names):
    """Everything that a book, a shelf or a row tells, of so many names."""
    told = [thing.time_now(), thing.deeds_done(), thing.names()]
    told.append([(name, thing.count_of(name), thing.last_of(name)) for name in names])
    if hasattr(thing, "goings"):
        told.append((thing.goings(), [thing.has(name) for name in names]))
    if hasattr(thing, "spots"):
        told.append((thing.spots(), [thing.names_at(places) for places in (1, 2, 3, 1000)]))
        told.append([thing.met_by(places) for places in (1, 2, 3, 1000)])
        told.append([thing.enough(many) for many in (0, 1, 2, 5, 10 ** 30)])
    return told
