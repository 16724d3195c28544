"""Points 3 to 5: a rest at once, and the same rest in parts, come to the same."""

import unittest

from leastasked.book import Book
from leastasked.row import Row
from leastasked.shelf import Shelf
from plain import do, histories, names_in

WAYS = (
    lambda steps: [steps, 0],
    lambda steps: [0, 0, steps],
    lambda steps: [steps // 2, steps - steps // 2],
    lambda steps: [steps // 3, 0, steps // 5, steps - steps // 3 - steps // 5],
    lambda steps: [1] * min(steps, 25) + [steps - min(steps, 25)],
)


def told(thing, names, deed_of):
    """All that is told, with each deed called by the history's own one that it stands for.

    In one rest the goings are told by the last askings, in its parts part by part:
    so they are laid in one order here.
    """
    lasts = [deed_of.get(thing.last_of(name)) for name in names]
    found = [thing.time_now(), thing.names(), [thing.count_of(name) for name in names], lasts]
    if isinstance(thing, Shelf):
        found.append(sorted((deed_of[deed], deed_of[last], name, reason, count)
                            for deed, name, reason, count, last in thing.goings()))
    if isinstance(thing, Row):
        found.append((thing.spots(), [thing.met_by(places) for places in (1, 2, 3, 1000)]))
    return found


class Rests(unittest.TestCase):
    def assert_same_in_parts(self, make, deeds, way):
        whole, split, names = make(), make(), names_in(deeds)
        own = {number: number for number in range(1, len(deeds) + 1)}
        deed_of = {}
        for number, deed in enumerate(deeds, start=1):
            answer = do(whole, deed)
            parts = [("rest", steps) for steps in way(deed[1])] if deed[0] == "rest" else [deed]
            answers = []
            for part in parts:
                answers.append(do(split, part))
                deed_of[split.deeds_done()] = number
            self.assertEqual(sum(answers) if deed[0] == "rest" else answers[0], answer)
            self.assertEqual(told(split, names, deed_of), told(whole, names, own))

    def test_many_histories(self):
        for span, part, deeds in histories(length=80, seeds=(11,)):
            for number, way in enumerate(WAYS):
                with self.subTest(span=span, part=part, way=number):
                    self.assert_same_in_parts(lambda: Book(span, part), deeds, way)
                    self.assert_same_in_parts(lambda: Row(span, part), deeds, way)
                    for places in (1, 3, 1000):
                        self.assert_same_in_parts(lambda: Shelf(places, span, part), deeds, way)

    def test_order_of_goings_in_one_rest_and_in_its_parts(self):
        whole, split = Shelf(2, 10, 2), Shelf(2, 10, 2)
        for shelf in (whole, split):
            shelf.ask("a", 2)
            shelf.ask("b", 1)
        whole.rest(20)
        split.rest(10)
        split.rest(10)
        self.assertEqual(whole.goings(), [(3, "a", "faded", 0, 1), (3, "b", "faded", 0, 2)])
        self.assertEqual(split.goings(), [(3, "b", "faded", 0, 2), (4, "a", "faded", 0, 1)])

    def test_rest_of_0_changes_the_number_of_deeds_alone(self):
        for thing in (Book(3, 2), Shelf(2, 3, 2), Row(3, 2)):
            thing.ask("a", 2)
            thing.rest(2)
            self.assertEqual((thing.time_now(), thing.count_of("a")), (3, 1))
            # At a time that is a multiple of the span no further ageing comes.
            self.assertEqual(thing.rest(0), 0)
            self.assertEqual((thing.time_now(), thing.count_of("a"), thing.deeds_done()), (3, 1, 3))


if __name__ == "__main__":
    unittest.main()
