"""Points 8 and 9, and the interface under leastasked/shelf.py."""

import unittest

from leastasked.book import Book
from leastasked.shelf import Shelf
from plain import SHAPES, do, histories, history, names_in, reckon_shelf

NEVER = 10 ** 20


def asked(shelf, names):
    return [shelf.ask(name) for name in names]


class MetAndComing(unittest.TestCase):
    def test_a_shelf_is_a_book(self):
        self.assertIsInstance(Shelf(1, 1, 2), Book)

    def test_arguments_go_by_their_names(self):
        shelf = Shelf(part=2, places=1, span=NEVER)
        self.assertIs(shelf.ask(weight=3, name="a"), False)
        self.assertIs(shelf.has(name="a"), True)
        self.assertIs(shelf.drop(name="a"), True)

    def test_at_first_all_is_free(self):
        shelf = Shelf(2, 5, 2)
        self.assertEqual((shelf.names(), shelf.goings()), ([], []))
        self.assertIs(shelf.has("a"), False)

    def test_what_is_asked_comes_and_is_met_then(self):
        shelf = Shelf(2, NEVER, 2)
        self.assertEqual(asked(shelf, "abab"), [False, False, True, True])
        self.assertEqual((shelf.names(), shelf.goings()), (["a", "b"], []))

    def test_weakest_goes_even_where_the_asked_thing_is_weaker_still(self):
        shelf = Shelf(2, NEVER, 2)
        shelf.ask("a", 9)
        shelf.ask("b", 8)
        self.assertIs(shelf.ask("c"), False)
        self.assertEqual(shelf.names(), ["c", "a"])
        self.assertEqual(shelf.goings(), [(3, "b", "crowded", 8, 2)])

    def test_of_equal_counts_the_one_that_waited_longest_goes(self):
        shelf = Shelf(3, NEVER, 2)
        asked(shelf, "abcabc")
        asked(shelf, "a")
        shelf.ask("d", 5)
        self.assertEqual(shelf.goings(), [(8, "b", "crowded", 2, 5)])
        shelf.ask("e", 5)
        self.assertEqual(shelf.goings()[1:], [(9, "c", "crowded", 2, 6)])

    def test_counts_go_on_of_names_that_do_not_stand_there(self):
        shelf = Shelf(1, 10, 2)
        shelf.ask("a", 40)
        shelf.ask("b", 1)
        self.assertEqual((shelf.count_of("a"), shelf.last_of("a"), shelf.has("a")), (40, 1, False))
        shelf.rest(10)
        self.assertEqual((shelf.count_of("a"), shelf.last_of("a")), (20, 1))
        self.assertIs(shelf.ask("a"), False)
        self.assertEqual((shelf.count_of("a"), shelf.last_of("a")), (21, 4))
        self.assertEqual(shelf.names(), ["a"])

    def test_name_that_fades_where_it_does_not_stand_is_no_going(self):
        shelf = Shelf(1, 10, 2)
        asked(shelf, "ab")
        shelf.rest(10)
        self.assertEqual((shelf.count_of("a"), shelf.last_of("a")), (0, None))
        self.assertEqual(shelf.goings(), [(2, "a", "crowded", 1, 1), (3, "b", "faded", 0, 2)])

    def test_asked_thing_that_comes_back_is_strong_by_its_old_count(self):
        shelf = Shelf(2, NEVER, 2)
        shelf.ask("a", 3)
        shelf.ask("b", 4)
        shelf.ask("c", 1)
        shelf.ask("a", 1)
        self.assertEqual(shelf.names(), ["b", "a"])
        self.assertEqual(shelf.goings(), [(3, "a", "crowded", 3, 1), (4, "c", "crowded", 1, 3)])

    def test_shelf_of_one_place(self):
        shelf = Shelf(1, NEVER, 2)
        self.assertEqual(asked(shelf, "aabba"), [False, True, False, True, False])
        self.assertEqual(shelf.goings(), [(3, "a", "crowded", 2, 2), (5, "b", "crowded", 2, 4)])
        self.assertEqual(shelf.names(), ["a"])

    def test_shelf_of_1000_places(self):
        shelf = Shelf(1000, NEVER, 2)
        names = [f"name {number}" for number in range(1000)]
        self.assertEqual(asked(shelf, names), [False] * 1000)
        self.assertEqual((shelf.names(), shelf.goings()), (names, []))
        self.assertEqual(asked(shelf, reversed(names)), [True] * 1000)
        self.assertEqual(shelf.names(), names[::-1])

    def test_shelf_of_999_places_has_one_too_few(self):
        shelf = Shelf(999, NEVER, 2)
        names = [f"name {number}" for number in range(1000)]
        asked(shelf, names)
        self.assertEqual((shelf.names(), shelf.goings()), (names[1:], [(1000, "name 0", "crowded", 1, 1)]))


class Fading(unittest.TestCase):
    def test_in_an_ask(self):
        shelf = Shelf(3, 3, 2)
        asked(shelf, "ab")
        self.assertIs(shelf.ask("c"), False)
        self.assertEqual(shelf.goings(), [(3, "a", "faded", 0, 1), (3, "b", "faded", 0, 2)])
        self.assertEqual(shelf.names(), ["c"])

    def test_in_a_rest_at_once(self):
        shelf = Shelf(3, 5, 2)
        shelf.ask("a", 2)
        shelf.ask("b", 1)
        shelf.rest(2)
        self.assertEqual((shelf.names(), shelf.goings()), (["b", "a"], []))
        shelf.rest(1)
        self.assertEqual((shelf.names(), shelf.goings()), (["a"], [(4, "b", "faded", 0, 2)]))
        self.assertEqual((shelf.has("a"), shelf.has("b")), (True, False))

    def test_of_several_ageings_of_one_deed_the_smaller_last_asking_went_first(self):
        shelf = Shelf(4, 100, 2)
        shelf.ask("a", 8)
        shelf.ask("b", 1)
        shelf.ask("c", 64)
        shelf.ask("d", 2)
        shelf.rest(500)
        self.assertEqual(shelf.goings(), [(5, "a", "faded", 0, 1), (5, "b", "faded", 0, 2), (5, "d", "faded", 0, 4)])
        self.assertEqual((shelf.names(), shelf.count_of("c")), (["c"], 2))

    def test_order_goes_by_the_last_asking_and_not_by_the_first(self):
        shelf = Shelf(3, 100, 10)
        asked(shelf, "abca")
        shelf.rest(100)
        self.assertEqual(shelf.goings(), [(5, "b", "faded", 0, 2), (5, "c", "faded", 0, 3), (5, "a", "faded", 0, 4)])

    def test_thing_that_fades_and_is_asked_in_the_same_deed_goes_and_is_not_met(self):
        shelf = Shelf(1, 2, 2)
        shelf.ask("a")
        self.assertIs(shelf.ask("a"), False)
        self.assertEqual(shelf.goings(), [(2, "a", "faded", 0, 1)])
        self.assertEqual((shelf.names(), shelf.count_of("a"), shelf.last_of("a")), (["a"], 1, 2))

    def test_place_that_becomes_free_in_the_asks_own_step_of_time(self):
        shelf = Shelf(2, 3, 2)
        shelf.ask("a", 8)
        shelf.ask("b", 1)
        self.assertIs(shelf.ask("c"), False)
        self.assertEqual(shelf.goings(), [(3, "b", "faded", 0, 2)])
        self.assertEqual(shelf.names(), ["c", "a"])

    def test_weakest_is_found_with_the_counts_behind_the_step_of_time(self):
        shelf = Shelf(2, 3, 2)
        shelf.ask("a", 3)
        shelf.ask("b", 2)
        shelf.ask("c")
        self.assertEqual(shelf.goings(), [(3, "a", "crowded", 1, 1)])


class Drops(unittest.TestCase):
    def test_drop_of_what_stands_there(self):
        shelf = Shelf(2, NEVER, 2)
        shelf.ask("a", 4)
        shelf.ask("b", 2)
        self.assertIs(shelf.drop("a"), True)
        self.assertEqual((shelf.names(), shelf.goings()), (["b"], [(3, "a", "dropped", 4, 1)]))
        self.assertEqual((shelf.count_of("a"), shelf.last_of("a"), shelf.has("a")), (4, 1, False))
        self.assertIs(shelf.ask("c"), False)
        self.assertEqual(len(shelf.goings()), 1)

    def test_drop_of_what_does_not_stand_there(self):
        shelf = Shelf(1, NEVER, 2)
        asked(shelf, "ab")
        goings = shelf.goings()
        for number, name in enumerate(("a", "never"), start=3):
            self.assertIs(shelf.drop(name), False)
            self.assertEqual((shelf.deeds_done(), shelf.time_now()), (number, 2))
        self.assertEqual((shelf.names(), shelf.goings(), shelf.count_of("a")), (["b"], goings, 1))

    def test_dropped_thing_fades_without_a_second_going_and_comes_again(self):
        shelf = Shelf(1, 10, 2)
        shelf.ask("a")
        shelf.drop("a")
        shelf.rest(9)
        self.assertEqual(shelf.goings(), [(2, "a", "dropped", 1, 1)])
        self.assertIs(shelf.ask("a"), False)
        self.assertEqual((shelf.names(), shelf.count_of("a")), (["a"], 1))


class WholeHistories(unittest.TestCase):
    def assert_as_reckoned(self, deeds, places, span, part):
        shelf = Shelf(places, span, part)
        for deed, (answer, names, goings) in zip(deeds, reckon_shelf(deeds, places, span, part)):
            told = do(shelf, deed)
            self.assertEqual((type(told), told), (type(answer), answer))
            self.assertEqual(shelf.names(), names)
            self.assertEqual([name for name in names_in(deeds) if shelf.has(name)], sorted(names))
            self.assertEqual(shelf.goings()[-15:], goings[-15:])
            if deed[0] == "ask":
                self.assertIs(shelf.has(deed[1]), True)
        self.assertEqual(shelf.goings(), goings)
        self.assertTrue(all(type(going) is tuple for going in shelf.goings()))
        return [reason for deed, name, reason, count, last in goings]

    def test_as_reckoned_plainly(self):
        reasons = []
        for span, part, deeds in histories():
            for places in (1, 2, 3, 4, 6, 1000):
                with self.subTest(span=span, part=part, places=places):
                    reasons += self.assert_as_reckoned(deeds, places, span, part)
        for reason in ("faded", "crowded", "dropped"):
            self.assertGreater(reasons.count(reason), 500)

    def test_long_histories_as_reckoned_plainly(self):
        for shape in (SHAPES[1], SHAPES[4], SHAPES[7]):
            for places in (2, 5):
                with self.subTest(shape=shape, places=places):
                    self.assert_as_reckoned(history(77, shape, 1500, busy=9), places, shape[0], shape[1])


if __name__ == "__main__":
    unittest.main()
