"""Tests of roomstays.hours.peak: promise 1 as far as it speaks of it, and promise 3."""

import itertools
import unittest

from days import flat, fullest_hour, scattered_days, small_days
from roomstays.hours import allowed, letin, peak

REFUSED = [-22]
ALL_DAY = [0, 24]


class Ordinary(unittest.TestCase):
    def test_one_stay(self):
        self.assertEqual(peak([8, 10]), [1])

    def test_stays_that_meet(self):
        self.assertEqual(peak([8, 10, 9, 11]), [2])
        self.assertEqual(peak([9, 12, 10, 11, 10, 14, 11, 13, 12, 15]), [3])

    def test_stays_that_do_not_meet(self):
        self.assertEqual(peak([1, 3, 5, 8, 10, 11]), [1])
        self.assertEqual(peak([10, 11, 1, 3, 5, 8]), [1])

    def test_all_meet_one_but_not_one_another(self):
        self.assertEqual(peak([1, 20, 2, 4, 6, 8, 10, 12]), [2])

    def test_each_meets_the_next_alone(self):
        self.assertEqual(peak([0, 3, 2, 6, 5, 9, 8, 12]), [2])

    def test_one_within_another(self):
        self.assertEqual(peak([0, 9, 1, 8, 2, 7, 3, 6, 4, 5]), [5])
        self.assertEqual(peak([4, 5, 3, 6, 2, 7, 1, 8, 0, 9]), [5])

    def test_peak_early_in_the_day(self):
        self.assertEqual(peak([0, 2, 0, 1, 0, 3, 20, 21, 20, 22]), [3])
        self.assertEqual(peak([20, 21, 20, 22, 0, 1, 0, 1, 0, 1]), [3])

    def test_peak_late_in_the_day(self):
        self.assertEqual(peak([0, 2, 0, 1, 20, 24, 21, 23, 22, 23]), [3])
        self.assertEqual(peak([22, 23, 21, 24, 20, 23, 3, 4]), [3])

    def test_two_peaks(self):
        self.assertEqual(peak([2, 5, 3, 6, 15, 18, 16, 19]), [2])
        self.assertEqual(peak([2, 5, 3, 6, 15, 18, 16, 19, 17, 18]), [3])

    def test_in_any_order(self):
        for spans in itertools.permutations([(9, 12), (10, 11), (10, 14), (11, 13), (12, 15)]):
            self.assertEqual(peak(flat(spans)), [3])


class Edges(unittest.TestCase):
    def test_coming_as_another_leaves(self):
        self.assertEqual(peak([0, 2, 2, 4]), [1])
        self.assertEqual(peak([2, 4, 0, 2]), [1])
        self.assertEqual(peak([0, 2, 0, 2, 2, 4, 2, 4]), [2])

    def test_coming_just_before_another_leaves(self):
        self.assertEqual(peak([0, 3, 2, 4]), [2])
        self.assertEqual(peak([2, 4, 0, 3]), [2])

    def test_two_who_stay_as_long(self):
        for stays in ([0, 4, 0, 4], [0, 4, 1, 4], [0, 3, 1, 4], [7, 8, 7, 8]):
            self.assertEqual(peak(stays), [2])

    def test_no_stays(self):
        self.assertEqual(peak([]), [0])

    def test_all_day(self):
        self.assertEqual(peak(ALL_DAY), [1])
        self.assertEqual(peak(ALL_DAY * 2), [2])
        for hour in range(24):
            self.assertEqual(peak(ALL_DAY + [hour, hour + 1]), [2])
            self.assertEqual(peak([hour, hour + 1] + ALL_DAY), [2])

    def test_two_in_any_one_hour(self):
        for hour in range(24):
            self.assertEqual(peak([hour, hour + 1]), [1])
            self.assertEqual(peak([hour, hour + 1] * 2), [2])

    def test_hour_23(self):
        self.assertEqual(peak([23, 24]), [1])
        self.assertEqual(peak([0, 23, 23, 24]), [1])
        self.assertEqual(peak([23, 24, 23, 24]), [2])
        self.assertEqual(peak([22, 24, 23, 24]), [2])
        self.assertEqual(peak([0, 1, 20, 24, 22, 24, 23, 24]), [3])

    def test_ten_stays_all_alike(self):
        self.assertEqual(peak(ALL_DAY * 10), [10])
        self.assertEqual(peak([0, 1] * 10), [10])
        self.assertEqual(peak([12, 15] * 10), [10])
        self.assertEqual(peak([23, 24] * 10), [10])

    def test_ten_stays_of_which_none_meets_another(self):
        spans = [(2 * number, 2 * number + 1) for number in range(10)]
        self.assertEqual(peak(flat(spans)), [1])
        self.assertEqual(peak(flat(spans[::-1])), [1])

    def test_ten_stays_each_from_where_another_leaves(self):
        spans = [(2 * number, 2 * number + 2) for number in range(10)]
        self.assertEqual(peak(flat(spans)), [1])
        self.assertEqual(peak(flat(spans[::-1])), [1])

    def test_every_number_of_stays(self):
        for count in range(11):
            self.assertEqual(peak([5, 7] * count), [count])


class Refused(unittest.TestCase):
    def test_too_many_stays(self):
        for count in (11, 12):
            self.assertEqual(peak([1, 2] * count), REFUSED)
            self.assertEqual(peak(flat((hour, hour + 1) for hour in range(count))), REFUSED)

    def test_odd_number_of_numbers(self):
        for length in range(1, 24, 2):
            self.assertEqual(peak(([1, 2] * 12)[:length]), REFUSED)
        self.assertEqual(peak([0]), REFUSED)

    def test_every_pair_of_hours(self):
        for first in range(28):
            for until in range(28):
                wanted = [1] if first < until <= 24 else REFUSED
                self.assertEqual(peak([first, until]), wanted)

    def test_very_large_hours(self):
        for span in ([0, 2147483648], [0, 4294967295], [4294967295, 5], [4294967294, 4294967295]):
            self.assertEqual(peak(span), REFUSED)
            self.assertEqual(peak([1, 2] + span), REFUSED)

    def test_one_bad_stay_among_good_ones(self):
        for number in range(10):
            for bad in ([2, 2], [3, 2], [24, 24], [23, 25], [25, 26], [0, 4294967295]):
                stays = [1, 2] * 10
                stays[2 * number:2 * number + 2] = bad
                self.assertEqual(peak(stays), REFUSED)


class WhatHolds(unittest.TestCase):
    def test_as_many_as_in_the_fullest_hour(self):
        for spans, places in itertools.chain(small_days(), scattered_days()):
            self.assertEqual(peak(flat(spans)), [fullest_hour(range(len(spans)), spans)], spans)

    def test_all_are_let_in_just_if_the_peak_is_no_more_than_the_places(self):
        for spans, places in itertools.chain(small_days(), scattered_days()):
            all_in = letin(places, flat(spans))[0] == len(spans)
            self.assertEqual(all_in, peak(flat(spans))[0] <= places, (places, spans))

    def test_the_peak_is_the_fewest_places_with_which_all_are_allowed(self):
        for spans, places in itertools.islice(scattered_days(), 0, None, 3):
            most = peak(flat(spans))[0]
            everyone = list(range(len(spans)))
            self.assertEqual(allowed(most, flat(spans), everyone), [1], spans)
            self.assertEqual(allowed(most - 1, flat(spans), everyone), [0], spans)

    def test_one_more_who_asks_raises_it_by_one_at_most(self):
        for spans, places in itertools.chain(small_days(), scattered_days()):
            if spans:
                more = peak(flat(spans))[0] - peak(flat(spans[:-1]))[0]
                self.assertIn(more, (0, 1), spans)


if __name__ == "__main__":
    unittest.main()
