"""Tests of roomstays.hours.lockers: promise 1 as far as it speaks of it, and promise 3."""

import unittest

from days import every_row, flat, there
from roomstays.hours import lockers, peak

REFUSED = [-22]
ALL_DAY = [0, 24]


def handed_back_hour_by_hour(spans):
    """The same rule told otherwise: each hour keys come back, then the least ones go out."""
    hook = list(range(len(spans)))
    keys = [None] * len(spans)
    for hour in range(24):
        hook = sorted(hook + [keys[number] for number, span in enumerate(spans) if span[1] == hour])
        for number, span in enumerate(spans):
            if span[0] == hour:
                keys[number] = hook.pop(0)
    return keys


class Ordinary(unittest.TestCase):
    def test_one_stay(self):
        self.assertEqual(lockers([8, 10]), [1, 0])

    def test_stays_that_meet(self):
        self.assertEqual(lockers([8, 10, 9, 11]), [2, 0, 1])
        self.assertEqual(lockers([0, 9, 1, 8, 2, 7, 3, 6, 4, 5]), [5, 0, 1, 2, 3, 4])

    def test_stays_that_do_not_meet(self):
        self.assertEqual(lockers([1, 3, 5, 8, 10, 11]), [3, 0, 0, 0])

    def test_told_by_number_given_by_hour(self):
        self.assertEqual(lockers([9, 11, 8, 10]), [2, 1, 0])
        self.assertEqual(lockers([4, 5, 3, 6, 2, 7, 1, 8, 0, 9]), [5, 4, 3, 2, 1, 0])
        self.assertEqual(lockers([5, 6, 0, 24, 0, 2]), [3, 1, 0, 1])
        self.assertEqual(lockers([6, 9, 7, 9, 2, 7, 5, 8]), [4, 2, 0, 0, 1])

    def test_from_the_same_hour_by_number(self):
        self.assertEqual(lockers([3, 9, 3, 4, 3, 7]), [3, 0, 1, 2])
        self.assertEqual(lockers([3, 4, 3, 9, 3, 7]), [3, 0, 1, 2])
        self.assertEqual(lockers([3, 4, 2, 9, 3, 7, 2, 3]), [4, 1, 0, 2, 1])

    def test_freed_locker_taken_anew(self):
        self.assertEqual(lockers([9, 12, 10, 11, 10, 14, 11, 13, 12, 15]), [5, 0, 1, 2, 1, 0])
        self.assertEqual(lockers([0, 4, 1, 3, 2, 9, 5, 6]), [4, 0, 1, 2, 0])

    def test_freed_locker_taken_long_after(self):
        self.assertEqual(lockers([0, 20, 1, 3, 15, 18]), [3, 0, 1, 1])

    def test_least_of_several_free_ones(self):
        # From hour 5 lockers 0, 1 and 3 are free.
        day = [0, 5, 0, 4, 0, 9, 0, 3]
        self.assertEqual(lockers(day + [5, 6]), [5, 0, 1, 2, 3, 0])
        self.assertEqual(lockers(day + [5, 8, 6, 8, 7, 8]), [7, 0, 1, 2, 3, 0, 1, 3])
        self.assertEqual(lockers(day + [7, 8, 6, 8, 5, 8]), [7, 0, 1, 2, 3, 3, 1, 0])

    def test_least_free_one_not_the_one_that_was_freed_last(self):
        self.assertEqual(lockers([0, 2, 0, 3, 0, 4, 5, 6]), [4, 0, 1, 2, 0])
        self.assertEqual(lockers([0, 4, 0, 3, 0, 2, 5, 6]), [4, 0, 1, 2, 0])

    def test_free_one_between_taken_ones(self):
        self.assertEqual(lockers([0, 9, 0, 3, 0, 9, 4, 6]), [4, 0, 1, 2, 1])
        self.assertEqual(lockers([0, 9, 0, 3, 0, 9, 4, 6, 5, 6]), [5, 0, 1, 2, 1, 3])

    def test_who_comes_later_does_not_count(self):
        # The one that comes in hour 4 has locker 0, which was free for the other, too.
        self.assertEqual(lockers([4, 9, 0, 3]), [2, 0, 0])
        self.assertEqual(lockers([4, 9, 0, 5, 1, 4]), [3, 1, 0, 1])


class Edges(unittest.TestCase):
    def test_coming_as_another_leaves(self):
        self.assertEqual(lockers([0, 2, 2, 4]), [2, 0, 0])
        self.assertEqual(lockers([2, 4, 0, 2]), [2, 0, 0])
        self.assertEqual(lockers([0, 9, 0, 2, 2, 4]), [3, 0, 1, 1])
        self.assertEqual(lockers([0, 2, 0, 2, 2, 4, 2, 4]), [4, 0, 1, 0, 1])

    def test_coming_just_before_another_leaves(self):
        self.assertEqual(lockers([0, 3, 2, 4]), [2, 0, 1])
        self.assertEqual(lockers([2, 4, 0, 3]), [2, 1, 0])

    def test_two_who_stay_as_long(self):
        for stays in ([0, 4, 0, 4], [0, 4, 1, 4], [0, 3, 1, 4], [7, 8, 7, 8]):
            self.assertEqual(lockers(stays), [2, 0, 1])
        for stays in ([1, 4, 0, 4], [1, 4, 0, 3]):
            self.assertEqual(lockers(stays), [2, 1, 0])

    def test_no_stays(self):
        self.assertEqual(lockers([]), [0])

    def test_all_day(self):
        self.assertEqual(lockers(ALL_DAY), [1, 0])
        self.assertEqual(lockers(ALL_DAY * 2), [2, 0, 1])
        self.assertEqual(lockers([0, 1] + ALL_DAY), [2, 0, 1])
        for hour in range(24):
            self.assertEqual(lockers(ALL_DAY + [hour, hour + 1]), [2, 0, 1])
        for hour in range(1, 24):
            self.assertEqual(lockers([hour, hour + 1] + ALL_DAY), [2, 1, 0])

    def test_freed_for_two_short_stays(self):
        self.assertEqual(lockers([0, 24, 0, 2, 2, 4, 4, 6]), [4, 0, 1, 1, 1])
        self.assertEqual(lockers([4, 6, 2, 4, 0, 2, 0, 24]), [4, 0, 0, 0, 1])
        self.assertEqual(lockers([0, 5, 5, 7, 8, 9]), [3, 0, 0, 0])
        # Two short ones at once: one gets the freed locker, the other a new one.
        self.assertEqual(lockers([0, 5, 1, 9, 5, 7, 6, 7]), [4, 0, 1, 0, 2])

    def test_hour_23(self):
        self.assertEqual(lockers([23, 24]), [1, 0])
        self.assertEqual(lockers([0, 23, 23, 24]), [2, 0, 0])
        self.assertEqual(lockers([23, 24, 0, 23]), [2, 0, 0])
        self.assertEqual(lockers([23, 24, 23, 24]), [2, 0, 1])
        self.assertEqual(lockers([23, 24, 22, 24]), [2, 1, 0])
        self.assertEqual(lockers([20, 24, 21, 23, 22, 23, 23, 24, 23, 24]), [5, 0, 1, 2, 1, 2])

    def test_ten_stays_at_once(self):
        self.assertEqual(lockers(ALL_DAY * 10), [10] + list(range(10)))
        self.assertEqual(lockers([0, 1] * 10), [10] + list(range(10)))
        self.assertEqual(lockers([23, 24] * 10), [10] + list(range(10)))
        spans = [(number, 24 - number) for number in range(10)]
        self.assertEqual(lockers(flat(spans)), [10] + list(range(10)))
        self.assertEqual(lockers(flat(spans[::-1])), [10] + list(range(9, -1, -1)))

    def test_ten_stays_one_behind_another(self):
        spans = [(2 * number, 2 * number + 2) for number in range(10)]
        self.assertEqual(lockers(flat(spans)), [10] + [0] * 10)
        self.assertEqual(lockers(flat(spans[::-1])), [10] + [0] * 10)

    def test_ten_stays_each_meeting_the_next_alone(self):
        spans = [(2 * number, 2 * number + 3) for number in range(10)]
        self.assertEqual(lockers(flat(spans)), [10] + [0, 1] * 5)
        self.assertEqual(lockers(flat(spans[::-1])), [10] + [1, 0] * 5)

    def test_every_number_of_stays(self):
        for count in range(11):
            self.assertEqual(lockers([5, 7] * count), [count] + list(range(count)))


class Refused(unittest.TestCase):
    def test_too_many_stays(self):
        for count in (11, 12):
            self.assertEqual(lockers([1, 2] * count), REFUSED)
            self.assertEqual(lockers(flat((hour, hour + 1) for hour in range(count))), REFUSED)

    def test_odd_number_of_numbers(self):
        for length in range(1, 24, 2):
            self.assertEqual(lockers(([1, 2] * 12)[:length]), REFUSED)
        self.assertEqual(lockers([0]), REFUSED)

    def test_every_pair_of_hours(self):
        for first in range(28):
            for until in range(28):
                wanted = [1, 0] if first < until <= 24 else REFUSED
                self.assertEqual(lockers([first, until]), wanted)

    def test_very_large_hours(self):
        for span in ([0, 2147483648], [0, 4294967295], [4294967295, 5], [4294967294, 4294967295]):
            self.assertEqual(lockers(span), REFUSED)
            self.assertEqual(lockers([1, 2] + span), REFUSED)

    def test_one_bad_stay_among_good_ones(self):
        for number in range(10):
            for bad in ([2, 2], [3, 2], [24, 24], [23, 25], [25, 26], [0, 4294967295]):
                stays = [1, 2] * 10
                stays[2 * number:2 * number + 2] = bad
                self.assertEqual(lockers(stays), REFUSED)


class WhatHolds(unittest.TestCase):
    def test_the_same_as_with_keys_handed_back_hour_by_hour(self):
        for spans in every_row():
            self.assertEqual(lockers(flat(spans)), [len(spans)] + handed_back_hour_by_hour(spans), spans)

    def test_as_many_lockers_as_are_there_at_once_are_enough(self):
        for spans in every_row():
            given = lockers(flat(spans))[1:]
            self.assertLessEqual(len(set(given)), peak(flat(spans))[0], spans)
            self.assertEqual(sorted(set(given)), list(range(peak(flat(spans))[0])), spans)

    def test_nobody_shares_a_locker_in_an_hour_in_which_both_are_there(self):
        for spans in every_row():
            given = lockers(flat(spans))[1:]
            for hour in range(24):
                used = [given[number] for number in there(range(len(spans)), spans, hour)]
                self.assertEqual(len(set(used)), len(used), spans)

    def test_one_who_asks_later_changes_no_locker_of_the_others(self):
        for spans in every_row():
            if spans and spans[-1][0] == max(first for first, until in spans):
                self.assertEqual(lockers(flat(spans))[1:-1], lockers(flat(spans[:-1]))[1:], spans)


if __name__ == "__main__":
    unittest.main()
