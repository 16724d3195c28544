"""Point 5: what a count becomes in so many ageings."""

import pathlib
import subprocess
import sys
import unittest

from leastasked.rules import aged

ROOT = pathlib.Path(__file__).resolve().parent.parent
PARTS = (2, 3, 7, 10, 2 ** 64, 10 ** 30 - 1, 10 ** 30)
COUNTS = (0, 1, 2, 7, 1000, 2 ** 100 - 1, 10 ** 30, 10 ** 60 - 1, 10 ** 60)
MOST = 10 ** 60
SECONDS = 20


def aged_one_by_one(count, part, times):
    for step in range(times):
        count = (count - count % part) // part
    return count


def asked_of_another_python(calls):
    # An ageing gone through one by one, or a power so high, would never end:
    # another process can be stopped then, whatever it is busy with.
    program = f"from leastasked.rules import aged\nprint([aged(*call) for call in {calls!r}])"
    run = subprocess.run([sys.executable, "-B", "-c", program], cwd=ROOT, timeout=SECONDS,
                         capture_output=True, text=True, check=True)
    return run.stdout.strip()


class Aged(unittest.TestCase):
    def test_example_of_the_document(self):
        self.assertEqual([aged(7, 2, times) for times in range(6)], [7, 3, 1, 0, 0, 0])

    def test_arguments_go_by_their_names(self):
        self.assertEqual(aged(times=1, part=2, count=7), 3)

    def test_small_numbers_as_gone_through_one_by_one(self):
        for part in range(2, 8):
            for count in range(0, 70):
                for times in range(0, 9):
                    with self.subTest(count=count, part=part, times=times):
                        self.assertEqual(aged(count, part, times), aged_one_by_one(count, part, times))

    def test_great_numbers_as_gone_through_one_by_one(self):
        for part in PARTS:
            for count in COUNTS:
                for times in (1, 2, 3, 60, 198, 199, 200, 201):
                    with self.subTest(count=count, part=part, times=times):
                        self.assertEqual(aged(count, part, times), aged_one_by_one(count, part, times))

    def test_no_ageing_changes_nothing(self):
        for part in PARTS:
            for count in COUNTS:
                with self.subTest(count=count, part=part):
                    self.assertEqual(aged(count, part, 0), count)

    def test_count_of_0_stays_0(self):
        for part in PARTS:
            for times in (0, 1, 2, 1000):
                with self.subTest(part=part, times=times):
                    self.assertEqual(aged(0, part, times), 0)

    def test_least_part(self):
        self.assertEqual(aged(1, 2, 1), 0)
        self.assertEqual(aged(2, 2, 1), 1)
        self.assertEqual(aged(10 ** 60, 2, 60), 5 ** 60)
        self.assertEqual(aged(10 ** 60, 2, 199), 1)
        self.assertEqual(aged(10 ** 60, 2, 200), 0)

    def test_greatest_part(self):
        self.assertEqual(aged(10 ** 30 - 1, 10 ** 30, 1), 0)
        self.assertEqual(aged(10 ** 30, 10 ** 30, 1), 1)
        self.assertEqual(aged(10 ** 60 - 1, 10 ** 30, 1), 10 ** 30 - 1)
        self.assertEqual(aged(10 ** 60 - 1, 10 ** 30, 2), 0)
        self.assertEqual([aged(10 ** 60, 10 ** 30, times) for times in range(4)], [10 ** 60, 10 ** 30, 1, 0])

    def test_count_about_the_part_so_often_multiplied(self):
        for part in PARTS:
            times = 1
            while part ** times <= MOST:
                just = part ** times
                with self.subTest(part=part, times=times):
                    self.assertEqual(aged(just - 1, part, times), 0)
                    self.assertEqual(aged(just, part, times), 1)
                    self.assertEqual(aged(just + 1, part, times), 1)
                    self.assertEqual(aged(just - 1, part, times - 1), part - 1)
                    self.assertEqual(aged(just, part, times - 1), part)
                    self.assertEqual(aged(just + 1, part, times + 1), 0)
                times += 1

    def test_so_often_and_so_often_again_is_as_both_together(self):
        for part in PARTS:
            for count in COUNTS:
                for first in (0, 1, 2, 5, 100, 199):
                    for again in (0, 1, 2, 5, 100, 199):
                        with self.subTest(count=count, part=part, first=first, again=again):
                            self.assertEqual(aged(aged(count, part, first), part, again),
                                             aged(count, part, first + again))

    def test_far_too_many_to_go_through_are_answered_at_once(self):
        calls = [(count, part, times) for count in COUNTS for part in PARTS
                 for times in (10 ** 9, 10 ** 20, MOST - 1, MOST)]
        self.assertEqual(asked_of_another_python(calls), repr([0] * len(calls)))

    def test_answer_is_a_whole_number_and_no_truth(self):
        for count in COUNTS:
            for times in (0, 1, 2, 199, 200):
                with self.subTest(count=count, times=times):
                    self.assertIs(type(aged(count, 2, times)), int)

    def test_somewhat_beyond_the_bounds_nothing_is_refused(self):
        self.assertEqual(aged(MOST + 1, 2, 0), MOST + 1)
        self.assertEqual(aged(10 ** 30 + 1, 10 ** 30 + 1, 1), 1)
        self.assertEqual(asked_of_another_python([(MOST, 2, MOST + 1)]), "[0]")


if __name__ == "__main__":
    unittest.main()
