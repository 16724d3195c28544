"""Points 10 and 11, and the interface under leastasked/row.py."""

import unittest

from leastasked.book import Book
from leastasked.row import Row
from leastasked.shelf import Shelf
from plain import SHAPES, do, histories, history, names_in, numbers, reckon_row, reckon_shelf

NEVER = 10 ** 20
MOST = 10 ** 30
# A shape in which a thousand names are asked; the ageing lets many of them fade.
WIDE = (700, 2, 1000, (1, 1, 2, 3), (0, 1, 300))


def asked(row, names):
    return [row.ask(name) for name in names]


def wide_history():
    """First each of 1000 names once, then asks, rests and drops."""
    return [("ask", f"n{number}", 1 + number % 3) for number in range(1000)] + history(4, WIDE, 1500, busy=9)


class Spots(unittest.TestCase):
    def test_a_row_is_a_book(self):
        self.assertIsInstance(Row(1, 2), Book)

    def test_arguments_go_by_their_names(self):
        row = Row(part=2, span=NEVER)
        self.assertIsNone(row.ask(weight=3, name="a"))
        self.assertEqual(row.ask(name="a"), 1)
        self.assertEqual((row.names_at(places=1), row.met_by(places=1), row.enough(many=1)), (["a"], 1, 1))
        self.assertIs(row.drop(name="a"), True)

    def test_at_first(self):
        row = Row(5, 2)
        self.assertEqual((row.spots(), row.names(), row.names_at(1000)), ([], [], []))
        self.assertEqual((row.met_by(1), row.met_by(1000)), (0, 0))
        self.assertEqual((row.enough(0), row.enough(1)), (1, None))

    def test_asked_name_comes_to_spot_1_and_the_weaker_goes_on(self):
        row = Row(NEVER, 2)
        row.ask("a", 1)
        row.ask("b", 5)
        self.assertEqual(row.spots(), ["b", "a"])
        row.ask("c", 3)
        self.assertEqual(row.spots(), ["c", "b", "a"])
        row.ask("d", 1)
        self.assertEqual(row.spots(), ["d", "b", "c", "a"])
        self.assertEqual(row.names(), ["a", "d", "c", "b"])

    def test_weakest_name_asked_stays_on_spot_1(self):
        row = Row(NEVER, 2)
        row.ask("a", 9)
        row.ask("b", 1)
        self.assertEqual(row.spots(), ["b", "a"])

    def test_equal_counts_the_smaller_last_asking_goes_on(self):
        row = Row(NEVER, 2)
        self.assertEqual(asked(row, "abcd"), [None] * 4)
        self.assertEqual(row.spots(), ["d", "c", "b", "a"])
        self.assertEqual(row.ask("b"), 3)
        self.assertEqual(row.spots(), ["b", "d", "c", "a"])

    def test_asked_name_leaves_its_spot_and_the_others_behind_it_stay(self):
        row = Row(NEVER, 2)
        asked(row, "abcd")
        self.assertEqual(row.ask("d"), 1)
        self.assertEqual(row.spots(), ["d", "c", "b", "a"])
        self.assertEqual(row.ask("a"), 4)
        self.assertEqual(row.spots(), ["a", "d", "c", "b"])

    def test_counts_before_the_growth_decide(self):
        row = Row(NEVER, 2)
        row.ask("a", 2)
        row.ask("b", 3)
        row.ask("c", 9)
        self.assertEqual(row.spots(), ["c", "b", "a"])
        row.ask("a", 100)
        self.assertEqual(row.spots(), ["a", "c", "b"])

    def test_drop_leaves_none_in_the_middle_and_none_at_the_end_is_left_out(self):
        row = Row(NEVER, 2)
        asked(row, "abcd")
        self.assertIs(row.drop("c"), True)
        self.assertEqual(row.spots(), ["d", None, "b", "a"])
        self.assertIs(row.drop("c"), False)
        self.assertIs(row.drop("never"), False)
        self.assertIs(row.drop("b"), True)
        self.assertEqual(row.spots(), ["d", None, None, "a"])
        self.assertIs(row.drop("a"), True)
        self.assertEqual(row.spots(), ["d"])
        self.assertIs(row.drop("d"), True)
        self.assertEqual((row.spots(), row.names(), row.deeds_done()), ([], [], 10))
        self.assertEqual([row.count_of(name) for name in "abcd"], [1, 1, 1, 1])

    def test_name_comes_to_rest_on_the_first_none(self):
        row = Row(NEVER, 2)
        asked(row, "abcd")
        row.drop("c")
        self.assertEqual(row.ask("a"), 4)
        self.assertEqual(row.spots(), ["a", "d", "b"])

    def test_first_spot_may_be_none(self):
        row = Row(NEVER, 2)
        asked(row, "ab")
        row.drop("b")
        self.assertEqual((row.spots(), row.names_at(1), row.names_at(2)), ([None, "a"], [], ["a"]))
        self.assertEqual(row.ask("a"), 2)
        self.assertEqual(row.spots(), ["a"])

    def test_fading_leaves_none_in_the_middle(self):
        row = Row(10, 2)
        for name, weight in (("a", 2), ("b", 3), ("p", 1)):
            row.ask(name, weight)
        row.drop("b")
        self.assertEqual(row.spots(), ["p", None, "a"])
        row.ask("q", 2)
        self.assertEqual(row.spots(), ["q", "p", "a"])
        row.rest(6)
        self.assertEqual((row.spots(), row.names()), (["q", None, "a"], ["a", "q"]))
        row.rest(10)
        self.assertEqual((row.spots(), row.names()), ([], []))

    def test_asked_name_that_fades_in_its_own_step_of_time_is_on_no_spot(self):
        row = Row(4, 2)
        for name, weight in (("a", 2), ("b", 1), ("c", 1)):
            row.ask(name, weight)
        self.assertEqual(row.spots(), ["c", "a", "b"])
        self.assertIsNone(row.ask("c"))
        self.assertEqual((row.spots(), row.met_by(1000)), (["c", "a"], 0))

    def test_fading_in_a_rest_leaves_out_the_end(self):
        row = Row(10, 2)
        row.ask("a", 1)
        row.ask("b", 1)
        row.ask("c", 2)
        row.rest(7)
        self.assertEqual(row.spots(), ["c"])

    def test_many_histories_as_reckoned_plainly(self):
        holes = 0
        for span, part, deeds in histories(length=200):
            row = Row(span, part)
            for deed, (answer, spots) in zip(deeds, reckon_row(deeds, span, part)):
                told = do(row, deed)
                self.assertEqual((type(told), told), (type(answer), answer))
                self.assertEqual(row.spots(), spots)
                self.assertEqual(sorted(row.names()), sorted(name for name in spots if name is not None))
                holes += spots.count(None)
        self.assertGreater(holes, 1000)

    def test_names_are_in_order_the_weakest_first(self):
        row, book = Row(13, 2), Book(13, 2)
        for deed in history(9, SHAPES[6], 300):
            do(row, deed)
            do(book, deed)
            self.assertEqual(row.names(), [name for name in book.names() if name in row.spots()])
            for places in (1, 2, 5):
                self.assertEqual(row.names_at(places),
                                 [name for name in book.names() if name in row.spots()[:places]])


class RowAndShelves(unittest.TestCase):
    def follow(self, deeds, span, part, numbers_of_places, looked_at):
        """Does the deeds to a row and to shelves, and holds what they tell against one another."""
        row = Row(span, part)
        shelves = {places: Shelf(places, span, part) for places in numbers_of_places}
        met = dict.fromkeys(shelves, 0)
        for number, deed in enumerate(deeds):
            spot = do(row, deed)
            for places, shelf in shelves.items():
                answer = do(shelf, deed)
                if deed[0] == "ask":
                    met[places] += answer
                    self.assertIs(answer, spot is not None and spot <= places)
                if looked_at(number):
                    self.assertEqual(row.names_at(places), shelf.names())
                    self.assertEqual(row.met_by(places), met[places])

    def test_many_histories_and_small_numbers_of_places(self):
        for span, part, deeds in histories():
            self.follow(deeds, span, part, (1, 2, 3, 4, 5, 6, 8, 10, 13, 16, 999, 1000), lambda number: True)

    def test_row_as_shelves_reckoned_plainly(self):
        for span, part, deeds in histories(length=60, seeds=(21,)):
            row = Row(span, part)
            reckoned = {places: reckon_shelf(deeds, places, span, part) for places in (1, 2, 3, 5, 1000)}
            for number, deed in enumerate(deeds):
                do(row, deed)
                for places, told in reckoned.items():
                    self.assertEqual(row.names_at(places), told[number][1])
                    met = [told[i][0] for i in range(number + 1) if deeds[i][0] == "ask"].count(True)
                    self.assertEqual((type(row.met_by(places)), row.met_by(places)), (int, met))

    def test_1000_names_and_shelves_up_to_1000_places(self):
        self.follow(wide_history(), WIDE[0], WIDE[1], (1, 2, 7, 50, 333, 500, 800, 998, 999, 1000),
                    lambda number: number % 50 == 0 or 990 < number < 1010)

    def test_row_of_1000_spots(self):
        row = Row(NEVER, 2)
        names = [f"n{number}" for number in range(1000)]
        asked(row, names)
        self.assertEqual(row.spots(), names[::-1])
        self.assertEqual(row.ask("n0"), 1000)
        self.assertEqual((row.met_by(999), row.met_by(1000), row.enough(1)), (0, 1, 1000))
        self.assertEqual(row.names_at(1000), names[1:] + ["n0"])
        self.assertEqual(row.names_at(999), names[2:] + ["n0"])


class Enough(unittest.TestCase):
    def least(self, met, many):
        return min([places for places in met if met[places] >= many], default=None)

    def test_small(self):
        row = Row(NEVER, 2)
        self.assertEqual(asked(row, "abaccb"), [None, None, 2, None, 1, 3])
        self.assertEqual([row.met_by(places) for places in (1, 2, 3, 4, 1000)], [1, 2, 3, 3, 3])
        self.assertEqual([row.enough(many) for many in (0, 1, 2, 3, 4, 5, 6, 7, MOST)],
                         [1, 1, 2, 3, None, None, None, None, None])

    def test_least_number_may_lie_above_1_for_a_single_one(self):
        row = Row(NEVER, 2)
        asked(row, "abcabc")
        self.assertEqual([row.met_by(places) for places in (1, 2, 3)], [0, 0, 3])
        self.assertEqual([row.enough(many) for many in (0, 1, 2, 3, 4)], [1, 3, 3, 3, None])

    def test_met_and_enough_stay_when_names_fade_or_are_dropped(self):
        row = Row(10, 2)
        asked(row, "aba")
        row.drop("a")
        row.rest(1000)
        self.assertEqual((row.spots(), row.met_by(1), row.met_by(2), row.enough(1)), ([], 0, 1, 2))

    def test_each_number_over_many_histories(self):
        for span, part, deeds in histories(length=60):
            row = Row(span, part)
            met = {places: 0 for places in range(1, len(names_in(deeds)) + 1)}
            shelves = {places: Shelf(places, span, part) for places in met}
            for number, deed in enumerate(deeds):
                do(row, deed)
                for places, shelf in shelves.items():
                    met[places] += do(shelf, deed) if deed[0] == "ask" else do(shelf, deed) * 0
                if number % 10 == 9:
                    asks = len([deed for deed in deeds[:number + 1] if deed[0] == "ask"])
                    for many in list(range(asks + 3)) + [MOST]:
                        self.assertEqual(row.enough(many), self.least(met, many))

    def test_drops_and_rests_are_no_asks_met(self):
        row = Row(NEVER, 2)
        row.ask("a")
        row.drop("a")
        row.rest(3)
        row.ask("a")
        row.drop("b")
        self.assertEqual((row.met_by(1000), row.enough(1)), (0, None))


class Nested(unittest.TestCase):
    """Point 11: fewer places never have a thing that more places don't have."""

    def test_shelves_of_all_small_numbers_of_places(self):
        rule = numbers(2026)
        for round_number in range(60):
            shape = SHAPES[next(rule) % len(SHAPES)]
            deeds = history(next(rule), shape, 100, busy=5 + next(rule) % 5)
            shelves = [Shelf(places, shape[0], shape[1]) for places in range(1, 17)]
            for deed in deeds:
                for shelf in shelves:
                    do(shelf, deed)
                standing = [set(shelf.names()) for shelf in shelves]
                for fewer, more in zip(standing, standing[1:]):
                    self.assertLessEqual(fewer, more)


if __name__ == "__main__":
    unittest.main()
