"""Tests of what holds of the whole program: points a, b and c, and promise 1 of all calls."""

import itertools
import unittest

from days import every_row, flat, scattered_rows, small_rows
from roomstays.hours import allowed, letin, lockers, peak, places

YES = [1]
NO = [0]
REFUSED = [-22]


def every_answer(stays):
    return [letin(1, stays), allowed(1, stays, []), peak(stays), lockers(stays), places(stays)]


def some_rows():
    return itertools.chain(itertools.islice(small_rows(), 0, None, 7), itertools.islice(scattered_rows(), 0, None, 40))


class NoOthersWouldBeMore(unittest.TestCase):
    """Point a."""

    def test_those_let_in_are_allowed_and_as_many_as_places_tells(self):
        for spans in every_row():
            for room, count in enumerate(places(flat(spans))[1:]):
                answer = letin(room, flat(spans))
                self.assertEqual(answer[0], count, (room, spans))
                self.assertEqual(allowed(room, flat(spans), answer[1:]), YES, (room, spans))

    def test_no_choice_of_more_is_allowed(self):
        for spans in some_rows():
            for room, count in enumerate(places(flat(spans))[1:]):
                # Were still more of them allowed, so would be any count + 1 of those.
                for some in itertools.combinations(range(len(spans)), count + 1):
                    self.assertEqual(allowed(room, flat(spans), list(some)), NO, (room, spans, some))

    def test_all_are_let_in_just_if_the_peak_is_no_more_than_the_places(self):
        for spans in every_row():
            everyone = list(range(len(spans)))
            most = peak(flat(spans))[0]
            for room, count in enumerate(places(flat(spans))[1:]):
                self.assertEqual(count == len(spans), most <= room, (room, spans))
                all_in = letin(room, flat(spans)) == [len(spans)] + everyone
                self.assertEqual(all_in, most <= room, (room, spans))
                self.assertEqual(allowed(room, flat(spans), everyone), YES if most <= room else NO, (room, spans))

    def test_the_peak_is_the_fewest_places_that_let_in_all(self):
        for spans in every_row():
            counts = places(flat(spans))[1:]
            self.assertEqual(peak(flat(spans)), [counts.index(len(spans))], spans)


class WhateverTheOrder(unittest.TestCase):
    """Point b."""

    def check_alike(self, spans, others):
        self.assertEqual(places(flat(others)), places(flat(spans)), (spans, others))
        self.assertEqual(peak(flat(others)), peak(flat(spans)), (spans, others))
        for room in range(len(spans) + 1):
            self.assertEqual(letin(room, flat(others))[0], letin(room, flat(spans))[0], (spans, others))
        self.assertEqual(len(set(lockers(flat(others))[1:])), len(set(lockers(flat(spans))[1:])), (spans, others))

    def test_as_many_are_let_in(self):
        for spans in itertools.islice(small_rows(), 0, None, 11):
            for others in itertools.permutations(spans):
                self.check_alike(spans, others)

    def test_as_many_are_let_in_over_the_whole_day(self):
        for spans in itertools.islice(scattered_rows(), 0, None, 6):
            for others in (spans[::-1], sorted(spans), sorted(spans)[::-1], spans[3:] + spans[:3]):
                self.check_alike(spans, others)

    def test_one_more_who_asks_lets_in_no_fewer_and_one_more_at_most(self):
        for spans in every_row():
            with_all = places(flat(spans))[1:]
            # The one more may ask last, first or in between.
            for number in range(len(spans)):
                without = places(flat(spans[:number] + spans[number + 1:]))[1:]
                for before, after in zip(without, with_all):
                    self.assertIn(after - before, (0, 1), (number, spans))


class LockersEnough(unittest.TestCase):
    """Point c."""

    def test_no_more_lockers_than_the_peak(self):
        for spans in every_row():
            given = lockers(flat(spans))
            self.assertEqual(given[0], len(spans), spans)
            self.assertLessEqual(len(set(given[1:])), peak(flat(spans))[0], spans)
            self.assertLess(max(given[1:], default=-1), peak(flat(spans))[0], spans)

    def test_those_who_share_a_locker_are_allowed_with_one_place(self):
        for spans in every_row():
            given = lockers(flat(spans))[1:]
            for locker in set(given):
                sharing = [number for number in range(len(spans)) if given[number] == locker]
                self.assertEqual(allowed(1, flat(spans), sharing), YES, (locker, spans))

    def test_as_many_places_as_lockers_let_in_all(self):
        for spans in every_row():
            count = len(set(lockers(flat(spans))[1:]))
            self.assertEqual(letin(count, flat(spans))[0], len(spans), spans)
            self.assertEqual(places(flat(spans))[1 + count], len(spans), spans)


class EachCallAlike(unittest.TestCase):
    def test_all_refuse_the_same_stays(self):
        for stays in ([1], [1, 2, 3], [2, 2], [3, 2], [24, 24], [23, 25], [25, 26], [0, 4294967295],
                      [4294967295, 0], [1, 2] * 11, [1, 2] * 12, [1, 2] * 11 + [3], [1, 2] * 9 + [2, 1]):
            self.assertEqual(every_answer(stays), [REFUSED] * 5, stays)

    def test_none_refuses_stays_as_they_are_told(self):
        for spans in every_row():
            self.assertNotIn(REFUSED, every_answer(flat(spans)), spans)

    def test_no_stays(self):
        self.assertEqual(every_answer([]), [[0], [1], [0], [0], [1, 0]])

    def test_each_by_itself(self):
        for spans in some_rows():
            stays = flat(spans)
            first = every_answer(stays)
            every_answer([0, 24] * 10)
            every_answer([1, 2, 3])
            self.assertEqual(every_answer(stays), first, spans)
            self.assertEqual(stays, flat(spans))


if __name__ == "__main__":
    unittest.main()
