"""Every refusal: what is refused, with which error, and that it changes nothing."""

import unittest

from leastasked.book import Book
from leastasked.errors import NoName, NoNumber, NoRule
from leastasked.row import Row
from leastasked.shelf import Shelf
from plain import all_told, do, histories, names_in

MOST = 10 ** 30
SIGNS = "".join(chr(code) for code in range(32, 127))
GOOD_NAMES = ["a", " ", "~", "a" * 40, " " * 40, "~" * 40, " a ~ b ", SIGNS[:40], SIGNS[40:80], SIGNS[80:]]
BAD_SIGNS = ["\n", "\t", "\r", "\0", "\x1f", "\x7f", "\x80", "\xa0", "\xe9", "\u0394", "\u2028", "\ud800", "\U0001f600"]
BAD_NAMES = (["", "a" * 41, " " * 41, "a" * 10000] + BAD_SIGNS + ["a" + sign for sign in BAD_SIGNS]
             + [sign + "a" for sign in BAD_SIGNS] + ["a" * 20 + sign + "a" * 19 for sign in BAD_SIGNS]
             + [0, 1, -1, MOST, True, False, None, [], ["a"], (), ("a",), {}, {"a": 1}, {"a"}, frozenset("a"), b"a",
                bytearray(b"a"), 1.5, object(), str, len, ValueError("a")])
NO_NUMBERS = [True, False, None, "", "1", "a", [], [1], (), (1,), {}, {1: 1}, {1}, b"1", 1.0, 2.0, 5.5, 1j,
              float("nan"), float("inf"), object(), int, len]


def bad_numbers(least, most):
    return NO_NUMBERS + [least - 1, most + 1, -1, -MOST, -10 ** 5000, 10 ** 5000]


BAD_WEIGHTS = bad_numbers(1, MOST)
BAD_STEPS = bad_numbers(0, MOST)
BAD_PLACES = bad_numbers(1, 1000)
BAD_SPANS = bad_numbers(1, 10 ** 20)
BAD_PARTS = bad_numbers(2, MOST) + [0, 1]
BAD_MANY = bad_numbers(0, MOST)


def things():
    return Book(7, 2), Shelf(1, 7, 2), Shelf(3, 7, 2), Row(7, 2)


def refused_calls(thing):
    """Of each method that refuses (refusal, method, arguments)."""
    for name in BAD_NAMES:
        for method in ("ask", "drop", "count_of", "last_of") + (("has",) if isinstance(thing, Shelf) else ()):
            yield NoName, method, (name,)
        yield NoName, "ask", (name, 5)
    for weight in BAD_WEIGHTS:
        for name in ("n0", "n1", "never asked"):
            yield NoNumber, "ask", (name, weight)
    for steps in BAD_STEPS:
        yield NoNumber, "rest", (steps,)
    if isinstance(thing, Row):
        for places in BAD_PLACES:
            yield NoNumber, "names_at", (places,)
            yield NoNumber, "met_by", (places,)
        for many in BAD_MANY:
            yield NoNumber, "enough", (many,)


class Refusals(unittest.TestCase):
    def assert_refused(self, refusal, call, *arguments):
        try:
            call(*arguments)
        except Exception as error:
            self.assertIs(type(error), refusal)
        else:
            self.fail(f"not refused with {refusal}")

    def test_each_method_refuses_what_is_not_as_told(self):
        for thing in things():
            for refusal, method, arguments in refused_calls(thing):
                self.assert_refused(refusal, getattr(thing, method), *arguments)

    def test_bad_name_comes_ahead_of_a_bad_weight(self):
        for thing in things():
            for name in BAD_NAMES:
                for weight in (0, MOST + 1, None, True, "1", []):
                    self.assert_refused(NoName, thing.ask, name, weight)
            for weight in BAD_WEIGHTS:
                self.assert_refused(NoName, thing.ask, "", weight)

    def test_classes_refuse_a_bad_rule(self):
        for make in (Book, Row, lambda span, part: Shelf(1, span, part), lambda span, part: Shelf(1000, span, part)):
            for span in BAD_SPANS:
                self.assert_refused(NoRule, make, span, 2)
                self.assert_refused(NoRule, make, span, None)
            for part in BAD_PARTS:
                self.assert_refused(NoRule, make, 1, part)
                self.assert_refused(NoRule, make, None, part)

    def test_shelf_refuses_bad_places_ahead_of_a_bad_rule(self):
        for places in BAD_PLACES:
            self.assert_refused(NoNumber, Shelf, places, 1, 2)
            self.assert_refused(NoNumber, Shelf, places, 0, 2)
            self.assert_refused(NoNumber, Shelf, places, 1, 1)
            self.assert_refused(NoNumber, Shelf, places, None, "2")

    def test_edges_are_taken(self):
        for span in (1, 10 ** 20):
            for part in (2, MOST):
                for thing in (Book(span, part), Shelf(1, span, part), Shelf(1000, span, part), Row(span, part)):
                    thing.ask("a", 1)
                    thing.ask("a", MOST)
                    thing.rest(0)
                    thing.rest(MOST)
                    self.assertEqual(thing.deeds_done(), 4)
        row = Row(5, 2)
        self.assertEqual((row.names_at(1), row.names_at(1000), row.met_by(1), row.met_by(1000)), ([], [], 0, 0))
        self.assertEqual((row.enough(0), row.enough(MOST)), (1, None))

    def test_good_names_are_taken(self):
        for thing in things():
            for number, name in enumerate(GOOD_NAMES, start=1):
                thing.ask(name, number * 10 ** 20)
                self.assertEqual(thing.last_of(name), number)
                self.assertGreater(thing.count_of(name), 0)
                self.assertIn(name, thing.names())
            for name in GOOD_NAMES:
                self.assertIn(thing.drop(name), (True, False))
        shelf = Shelf(10, 1000, 2)
        for name in GOOD_NAMES:
            shelf.ask(name)
            self.assertIs(shelf.has(name), True)

    def test_refused_call_changes_nothing_and_is_no_deed(self):
        names = ["n0", "n1", "n2", "never asked"]
        for thing in things():
            # Behind these the next step of time brings an ageing, in which names would fade.
            for name, weight in (("n0", 9), ("n1", 1), ("n0", 1), ("n2", 1), ("n1", 1), ("n0", 3)):
                thing.ask(name, weight)
            before = all_told(thing, names)
            for refusal, method, arguments in refused_calls(thing):
                self.assert_refused(refusal, getattr(thing, method), *arguments)
                self.assertEqual(all_told(thing, names), before)
            self.assertEqual((thing.deeds_done(), thing.time_now()), (6, 6))

    def test_histories_go_on_as_if_nothing_had_been_refused(self):
        for span, part, deeds in histories(length=60, seeds=(41,)):
            names = names_in(deeds)
            for make in (Book, Row, lambda span, part: Shelf(2, span, part)):
                thing, twin = make(span, part), make(span, part)
                calls = list(refused_calls(thing))
                for number, deed in enumerate(deeds):
                    for refusal, method, arguments in calls[number::60]:
                        self.assert_refused(refusal, getattr(thing, method), *arguments)
                    self.assertEqual(do(thing, deed), do(twin, deed))
                    self.assertEqual(all_told(thing, names), all_told(twin, names))


if __name__ == "__main__":
    unittest.main()
