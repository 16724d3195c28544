"""Point 2: lists that are told are the asker's own, and asking for what is told changes nothing."""

import unittest

from leastasked.book import Book
from leastasked.row import Row
from leastasked.shelf import Shelf
from plain import all_told, do, histories, names_in

LISTS = (lambda thing: thing.names(), lambda thing: thing.goings(), lambda thing: thing.spots(),
         lambda thing: thing.names_at(1), lambda thing: thing.names_at(2), lambda thing: thing.names_at(1000))


def things(span, part):
    return (Book(span, part), Shelf(1, span, part), Shelf(3, span, part), Shelf(1000, span, part), Row(span, part))


def lists_of(thing):
    wanted = {Book: LISTS[:1], Shelf: LISTS[:2], Row: LISTS[:1] + LISTS[2:]}[type(thing)]
    return [tell(thing) for tell in wanted]


def spoil(told):
    told.append("n0")
    told.insert(0, None)
    told.reverse()


class Lists(unittest.TestCase):
    def test_lists_are_lists(self):
        for thing in things(5, 2):
            for again in range(2):
                self.assertTrue(all(type(told) is list for told in lists_of(thing)))
                thing.ask("a")

    def test_what_is_done_to_a_told_list_changes_nothing(self):
        for span, part, deeds in histories(length=60, seeds=(31,)):
            names = names_in(deeds)
            for change in (list.clear, spoil):
                for thing, twin in zip(things(span, part), things(span, part)):
                    for deed in deeds:
                        for told in lists_of(thing):
                            change(told)
                        self.assertEqual(do(thing, deed), do(twin, deed))
                        for told in lists_of(thing):
                            change(told)
                        self.assertEqual(all_told(thing, names), all_told(twin, names))

    def test_told_list_stays_as_it_was_when_deeds_follow(self):
        for span, part, deeds in histories(length=60, seeds=(32,)):
            for thing in things(span, part):
                kept = []
                for deed in deeds:
                    kept += [(told, list(told)) for told in lists_of(thing)]
                    do(thing, deed)
                self.assertTrue(all(told == as_it_was for told, as_it_was in kept))

    def test_same_list_is_not_told_twice(self):
        for thing in things(5, 2):
            thing.ask("a")
            thing.ask("b")
            for one, other in zip(lists_of(thing), lists_of(thing)):
                self.assertEqual(one, other)
                self.assertIsNot(one, other)


class Asking(unittest.TestCase):
    def test_asking_for_what_is_told_changes_nothing(self):
        for span, part, deeds in histories(length=60, seeds=(33,)):
            names = names_in(deeds) + ["never asked"]
            for thing, twin in zip(things(span, part), things(span, part)):
                for deed in deeds:
                    self.assertEqual(all_told(thing, names), all_told(thing, names))
                    self.assertEqual(do(thing, deed), do(twin, deed))
                self.assertEqual(all_told(thing, names), all_told(twin, names))

    def test_same_deeds_come_to_the_same_each_time(self):
        for span, part, deeds in histories(length=60, seeds=(34,)):
            for thing, twin in zip(things(span, part), things(span, part)):
                self.assertEqual([do(thing, deed) for deed in deeds], [do(twin, deed) for deed in deeds])
                self.assertEqual(all_told(thing, names_in(deeds)), all_told(twin, names_in(deeds)))


if __name__ == "__main__":
    unittest.main()
