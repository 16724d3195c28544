"""Point 4: how many ageings there are when time goes on."""

import unittest

from leastasked.rules import ageings

SPANS = (1, 2, 3, 5, 7, 10, 10 ** 10 + 1, 10 ** 20 - 1, 10 ** 20)
MOST = 10 ** 60


def multiples_passed(span, since, upto):
    return len([time for time in range(since + 1, upto + 1) if time % span == 0])


class Ageings(unittest.TestCase):
    def test_examples_of_the_document(self):
        self.assertEqual(ageings(5, 4, 5), 1)
        self.assertEqual(ageings(5, 5, 9), 0)
        self.assertEqual(ageings(5, 4, 15), 3)

    def test_arguments_go_by_their_names(self):
        self.assertEqual(ageings(upto=15, span=5, since=4), 3)

    def test_small_numbers_as_counted_one_by_one(self):
        for span in range(1, 9):
            for since in range(0, 20):
                for upto in range(since, 30):
                    with self.subTest(span=span, since=since, upto=upto):
                        self.assertEqual(ageings(span, since, upto), multiples_passed(span, since, upto))

    def test_none_where_no_time_passes(self):
        for span in SPANS:
            for time in (0, 1, span - 1, span, span + 1, 6 * span, MOST - 1, MOST):
                with self.subTest(span=span, time=time):
                    self.assertEqual(ageings(span, time, time), 0)

    def test_from_0_on(self):
        for span in SPANS:
            with self.subTest(span=span):
                self.assertEqual(ageings(span, 0, span - 1), 0)
                self.assertEqual(ageings(span, 0, span), 1)
                self.assertEqual(ageings(span, 0, 2 * span - 1), 1)
                self.assertEqual(ageings(span, 0, 2 * span), 2)
                self.assertEqual(ageings(span, 0, 1000 * span), 1000)

    def test_below_on_and_above_a_multiple(self):
        for span in SPANS[1:]:
            for multiple in (span, 2 * span, 9 * span, MOST // span * span):
                with self.subTest(span=span, multiple=multiple):
                    self.assertEqual(ageings(span, multiple - 1, multiple), 1)
                    self.assertEqual(ageings(span, multiple - 1, multiple + 1), 1)
                    self.assertEqual(ageings(span, multiple, multiple + 1), 0)
                    self.assertEqual(ageings(span, multiple, multiple + span - 1), 0)
                    self.assertEqual(ageings(span, multiple, multiple + span), 1)
                    self.assertEqual(ageings(span, multiple - span, multiple - 1), 0)

    def test_span_1_has_one_at_each_step(self):
        self.assertEqual(ageings(1, 0, 1), 1)
        self.assertEqual(ageings(1, 3, 10), 7)
        self.assertEqual(ageings(1, 0, MOST), MOST)
        self.assertEqual(ageings(1, 1, MOST), MOST - 1)
        self.assertEqual(ageings(1, MOST - 1, MOST), 1)

    def test_greatest_span_and_greatest_times(self):
        self.assertEqual(ageings(10 ** 20, 0, 10 ** 20 - 1), 0)
        self.assertEqual(ageings(10 ** 20, 0, MOST), 10 ** 40)
        self.assertEqual(ageings(10 ** 20, 0, MOST - 1), 10 ** 40 - 1)
        self.assertEqual(ageings(10 ** 20, 1, MOST), 10 ** 40)
        self.assertEqual(ageings(10 ** 20, 10 ** 20, MOST), 10 ** 40 - 1)
        self.assertEqual(ageings(10 ** 20, MOST - 1, MOST), 1)
        self.assertEqual(ageings(3, 0, MOST), int("3" * 60))

    def test_over_a_middle_time_they_add_up(self):
        for span in SPANS:
            times = sorted({0, 1, span - 1, span, span + 1, 3 * span, 10 ** 30 + 7, MOST - 1, MOST})
            for first in times:
                for middle in [time for time in times if time >= first]:
                    for later in [time for time in times if time >= middle]:
                        with self.subTest(span=span, first=first, middle=middle, later=later):
                            both = ageings(span, first, middle) + ageings(span, middle, later)
                            self.assertEqual(ageings(span, first, later), both)

    def test_answer_is_a_whole_number_and_no_truth(self):
        for since, upto in ((0, 0), (0, 4), (4, 5), (5, 9), (4, 15), (0, MOST), (MOST, MOST)):
            with self.subTest(since=since, upto=upto):
                self.assertIs(type(ageings(5, since, upto)), int)
                self.assertIs(type(ageings(10 ** 20, since, upto)), int)

    def test_somewhat_beyond_the_bounds_nothing_is_refused(self):
        self.assertEqual(ageings(10 ** 20 + 1, 0, 10 ** 20 + 1), 1)
        self.assertEqual(ageings(5, MOST, MOST + 5), 1)


if __name__ == "__main__":
    unittest.main()
