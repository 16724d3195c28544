"""Points 2 to 7, and the interface under leastasked/book.py."""

import unittest

from leastasked.book import Book
from leastasked.row import Row
from leastasked.shelf import Shelf
from plain import do, histories, names_in, reckon

MOST = 10 ** 30


def makers():
    return (Book, Row, lambda span, part: Shelf(3, span, part), lambda span, part: Shelf(1000, span, part))


class TimeAndDeeds(unittest.TestCase):
    def test_at_first(self):
        for make in makers():
            thing = make(5, 2)
            self.assertEqual((thing.time_now(), thing.deeds_done(), thing.names()), (0, 0, []))
            self.assertEqual((thing.count_of("a"), thing.last_of("a")), (0, None))

    def test_arguments_go_by_their_names(self):
        book = Book(part=3, span=5)
        self.assertIs(book.ask(weight=7, name="a"), False)
        self.assertEqual(book.rest(steps=4), 1)
        self.assertIs(book.drop(name="a"), False)
        self.assertEqual((book.count_of(name="a"), book.last_of(name="a")), (2, 1))

    def test_each_deed_counts_and_takes_its_steps(self):
        for make in makers():
            thing = make(5, 2)
            told = []
            for deed in (("ask", "a"), ("rest", 0), ("rest", 7), ("drop", "a"), ("drop", "never"), ("ask", "b", 9),
                         ("rest", MOST), ("rest", 1), ("ask", "a")):
                do(thing, deed)
                told.append((thing.time_now(), thing.deeds_done()))
            self.assertEqual(told, [(1, 1), (1, 2), (8, 3), (8, 4), (8, 5), (9, 6),
                                    (9 + MOST, 7), (10 + MOST, 8), (11 + MOST, 9)])

    def test_time_and_deeds_of_many_histories(self):
        for span, part, deeds in histories():
            for make in makers():
                thing = make(span, part)
                for answering, behind in reckon(deeds, span, part):
                    do(thing, behind.deed)
                    self.assertEqual((thing.time_now(), thing.deeds_done()), (behind.time, behind.number))

    def test_objects_number_their_own_deeds(self):
        for make in makers():
            one, other = make(5, 2), make(5, 2)
            one.ask("a")
            one.rest(2)
            one.ask("b")
            other.ask("b")
            self.assertEqual((one.deeds_done(), one.last_of("a"), one.last_of("b")), (3, 1, 3))
            self.assertEqual((other.deeds_done(), other.last_of("a"), other.last_of("b")), (1, None, 1))

    def test_objects_side_by_side_dont_touch_one_another(self):
        several = list(histories(seeds=(5,)))
        for make in makers():
            things = [make(span, part) for span, part, deeds in several]
            reckoned = [reckon(deeds, span, part) for span, part, deeds in several]
            for step in zip(*reckoned):
                for thing, (answering, behind) in zip(things, step):
                    do(thing, behind.deed)
                for thing, (answering, behind) in zip(things, step):
                    self.assertEqual(thing.time_now(), behind.time)
                    for name in behind.counts:
                        self.assertEqual(thing.count_of(name), behind.counts[name])
                        self.assertEqual(thing.last_of(name), behind.lasts[name])


class Answers(unittest.TestCase):
    def test_ask_answers_whether_the_count_is_above_0(self):
        book = Book(1000, 2)
        self.assertEqual([book.ask("a"), book.ask("a"), book.ask("b"), book.ask("a"), book.ask("b")],
                         [False, True, False, True, True])

    def test_ageing_of_the_asks_own_step_comes_before_the_answer(self):
        book = Book(2, 2)
        self.assertIs(book.ask("a", 1), False)
        self.assertIs(book.ask("a", 1), False)
        self.assertEqual((book.count_of("a"), book.last_of("a")), (1, 2))

    def test_count_grows_behind_the_ageing_of_the_asks_own_step(self):
        book = Book(1, 2)
        book.ask("a", 7)
        self.assertEqual(book.count_of("a"), 7)
        self.assertIs(book.ask("a", 10), True)
        self.assertEqual(book.count_of("a"), 13)
        book.ask("b", 1)
        self.assertEqual((book.count_of("a"), book.count_of("b")), (6, 1))

    def test_answers_of_many_histories(self):
        for span, part, deeds in histories():
            book = Book(span, part)
            for answering, behind in reckon(deeds, span, part):
                answer = do(book, answering.deed)
                kind = answering.deed[0]
                if kind == "ask":
                    self.assertIs(answer, answering.counts.get(answering.deed[1], 0) > 0)
                elif kind == "drop":
                    self.assertIs(answer, False)
                else:
                    self.assertEqual((type(answer), answer), (int, answering.times))

    def test_rest_answers_its_ageings(self):
        for make in makers():
            thing = make(5, 2)
            self.assertEqual([thing.rest(steps) for steps in (0, 4, 0, 1, 0, 4, 1, 9, 1, 25)],
                             [0, 0, 0, 1, 0, 0, 1, 1, 1, 5])
            self.assertEqual(thing.rest(MOST), MOST // 5)
            self.assertIs(type(thing.rest(0)), int)
            self.assertEqual([make(1, 2).rest(MOST), make(10 ** 20, 2).rest(MOST)], [MOST, 10 ** 10])
            self.assertEqual([make(10 ** 20, 2).rest(10 ** 20), make(10 ** 20, 2).rest(10 ** 20 - 1)], [1, 0])

    def test_drop_of_a_book_answers_false_and_changes_no_count(self):
        book = Book(1000, 2)
        book.ask("a", 5)
        self.assertIs(book.drop("a"), False)
        self.assertIs(book.drop("b"), False)
        self.assertEqual((book.count_of("a"), book.last_of("a"), book.count_of("b")), (5, 1, 0))
        self.assertIs(book.ask("a"), True)
        self.assertEqual((book.count_of("a"), book.last_of("a")), (6, 4))


class Counts(unittest.TestCase):
    def test_counts_and_last_askings_of_many_histories(self):
        for span, part, deeds in histories(length=200):
            for make in makers():
                thing = make(span, part)
                for answering, behind in reckon(deeds, span, part):
                    do(thing, behind.deed)
                    for name in names_in(deeds):
                        self.assertEqual(thing.count_of(name), behind.counts.get(name, 0))
                        self.assertEqual(thing.last_of(name), behind.lasts.get(name))

    def test_faded_name_has_no_last_asking_until_it_is_asked_again(self):
        for make in makers():
            thing = make(10, 2)
            thing.ask("a", 3)
            thing.rest(9)
            self.assertEqual((thing.count_of("a"), thing.last_of("a")), (1, 1))
            thing.rest(10)
            self.assertEqual((thing.count_of("a"), thing.last_of("a"), thing.names()), (0, None, []))
            thing.rest(10)
            self.assertEqual((thing.count_of("a"), thing.last_of("a")), (0, None))
            thing.ask("a", 4)
            self.assertEqual((thing.count_of("a"), thing.last_of("a")), (4, 5))

    def test_weight_left_out_is_1(self):
        for make in makers():
            thing = make(1000, 2)
            for count in (1, 2, 3):
                thing.ask("a")
                self.assertEqual(thing.count_of("a"), count)

    def test_greatest_weights_parts_and_spans(self):
        for make in makers():
            thing = make(10 ** 20, MOST)
            thing.ask("a", MOST)
            thing.ask("b", MOST)
            thing.ask("a", MOST)
            thing.ask("c", MOST - 1)
            self.assertEqual((thing.count_of("a"), thing.count_of("b")), (2 * MOST, MOST))
            thing.rest(10 ** 20 - 5)
            self.assertEqual((thing.count_of("a"), thing.count_of("b"), thing.count_of("c")), (2 * MOST, MOST, MOST - 1))
            thing.rest(1)
            self.assertEqual((thing.count_of("a"), thing.count_of("b"), thing.count_of("c")), (2, 1, 0))
            self.assertEqual((thing.last_of("a"), thing.last_of("b"), thing.last_of("c")), (3, 2, None))
            thing.rest(10 ** 20)
            self.assertEqual((thing.count_of("a"), thing.last_of("a")), (0, None))

    def test_ageings_beyond_all_going_through(self):
        for make in makers():
            thing = make(1, 2)
            thing.ask("a", MOST)
            self.assertEqual(thing.rest(MOST), MOST)
            self.assertEqual((thing.count_of("a"), thing.last_of("a"), thing.names()), (0, None, []))

    def test_names_with_like_signs_are_told_apart(self):
        for make in makers():
            thing = make(1000, 2)
            names = ["a", "A", " a", "a ", " ", "  ", "aa", "~", "a" * 39, "a" * 40]
            for weight, name in enumerate(names, start=1):
                thing.ask(name, weight)
            self.assertEqual([thing.count_of(name) for name in names], list(range(1, 11)))

    def test_same_signs_are_one_name(self):
        for make in makers():
            thing = make(1000, 2)
            thing.ask("ab")
            thing.ask("".join(["a", "b"]))
            self.assertEqual(thing.count_of("ab"), 2)

    def test_answers_are_whole_numbers_and_no_truths(self):
        book = Book(3, 2)
        book.ask("a")
        for answer in (book.time_now(), book.deeds_done(), book.count_of("a"), book.count_of("b"), book.last_of("a")):
            self.assertIs(type(answer), int)


class Order(unittest.TestCase):
    def test_smaller_count_first_then_smaller_last_asking(self):
        book = Book(1000, 2)
        for name, weight in (("d", 2), ("c", 1), ("b", 1), ("a", 2), ("c", 1), ("e", 1)):
            book.ask(name, weight)
        self.assertEqual(book.names(), ["b", "e", "d", "a", "c"])

    def test_ageing_makes_counts_equal(self):
        book = Book(4, 2)
        book.ask("a", 3)
        book.ask("b", 2)
        self.assertEqual(book.names(), ["b", "a"])
        book.rest(2)
        self.assertEqual(book.names(), ["a", "b"])

    def test_names_of_many_histories(self):
        equal = 0
        for span, part, deeds in histories():
            book = Book(span, part)
            for answering, behind in reckon(deeds, span, part):
                do(book, behind.deed)
                above = [name for name in behind.counts if behind.counts[name] > 0]
                equal += len(above) - len({behind.counts[name] for name in above})
                self.assertEqual(book.names(), behind.in_order(above))
        self.assertGreater(equal, 1000)


if __name__ == "__main__":
    unittest.main()
