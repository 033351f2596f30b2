"""Tests of roomstays.hours.letin: promise 1 as far as it speaks of it, and promise 2."""

import itertools
import unittest

from days import fit, flat, most_that_fit, scattered_days, small_days, there
from roomstays.hours import letin

REFUSED = [-22]
ALL_DAY = [0, 24]


def kept_hour_by_hour(spans, places):
    """The same rule told otherwise: each hour keeps those there who leave first."""
    inside = set(range(len(spans)))
    for hour in range(24):
        by_leaving = sorted(there(inside, spans, hour), key=lambda number: (spans[number][1], number))
        inside -= set(by_leaving[places:])
    return sorted(inside)


class Ordinary(unittest.TestCase):
    def test_one_stay(self):
        self.assertEqual(letin(1, [8, 10]), [1, 0])

    def test_longest_there_gives_way(self):
        self.assertEqual(letin(2, [9, 12, 10, 11, 10, 14, 11, 13, 12, 15]), [4, 0, 1, 3, 4])

    def test_newcomer_who_leaves_sooner_takes_the_place(self):
        self.assertEqual(letin(1, [0, 8, 3, 5]), [1, 1])

    def test_newcomer_who_leaves_later_is_not_let_in(self):
        self.assertEqual(letin(1, [0, 3, 1, 5]), [1, 0])

    def test_three_places(self):
        self.assertEqual(letin(3, [0, 9, 1, 8, 2, 7, 3, 6, 4, 5]), [3, 2, 3, 4])

    def test_numbers_rise_whatever_the_hours(self):
        self.assertEqual(letin(2, [5, 6, 3, 4, 1, 2]), [3, 0, 1, 2])
        self.assertEqual(letin(1, [20, 22, 1, 5, 2, 3, 10, 21]), [2, 2, 3])

    def test_taken_by_the_hour_not_by_number(self):
        # By number, 0 would take the place from 2 before 1 came.
        self.assertEqual(letin(1, [4, 6, 2, 5, 0, 10]), [1, 1])

    def test_more_room_than_stays(self):
        self.assertEqual(letin(5, [1, 4, 2, 6, 3, 5]), [3, 0, 1, 2])


class Edges(unittest.TestCase):
    def test_coming_as_another_leaves(self):
        self.assertEqual(letin(1, [0, 2, 2, 4]), [2, 0, 1])
        self.assertEqual(letin(1, [2, 4, 0, 2]), [2, 0, 1])

    def test_coming_just_before_another_leaves(self):
        self.assertEqual(letin(1, [0, 3, 2, 4]), [1, 0])

    def test_two_who_stay_as_long(self):
        self.assertEqual(letin(1, [0, 4, 0, 4]), [1, 0])
        self.assertEqual(letin(1, [0, 4, 1, 4]), [1, 0])

    def test_of_two_who_stay_as_long_the_greater_number_though_first_come(self):
        self.assertEqual(letin(1, [1, 4, 0, 4]), [1, 0])

    def test_three_who_stay_as_long(self):
        self.assertEqual(letin(2, [2, 4, 1, 4, 0, 4]), [2, 0, 1])

    def test_no_place(self):
        self.assertEqual(letin(0, [1, 2]), [0])
        self.assertEqual(letin(0, [1, 2, 1, 3, 5, 24]), [0])

    def test_no_stays(self):
        for places in (0, 1, 20):
            self.assertEqual(letin(places, []), [0])

    def test_all_day(self):
        self.assertEqual(letin(1, ALL_DAY), [1, 0])
        self.assertEqual(letin(1, ALL_DAY + [0, 1]), [1, 1])
        self.assertEqual(letin(1, ALL_DAY + [5, 6]), [1, 1])
        self.assertEqual(letin(2, ALL_DAY + [5, 6]), [2, 0, 1])

    def test_place_freed_for_two_short_stays(self):
        self.assertEqual(letin(1, [0, 3, 1, 2, 2, 3]), [2, 1, 2])
        self.assertEqual(letin(1, ALL_DAY + [1, 2, 2, 3]), [2, 1, 2])
        self.assertEqual(letin(2, [0, 9, 0, 9, 1, 2, 2, 3]), [3, 0, 2, 3])

    def test_hour_23(self):
        self.assertEqual(letin(1, [23, 24]), [1, 0])
        self.assertEqual(letin(1, [0, 23, 23, 24]), [2, 0, 1])
        self.assertEqual(letin(1, [23, 24, 22, 24]), [1, 0])
        self.assertEqual(letin(1, [22, 24, 23, 24]), [1, 0])
        self.assertEqual(letin(2, [23, 24, 23, 24, 23, 24]), [2, 0, 1])

    def test_most_places_and_most_stays(self):
        self.assertEqual(letin(20, ALL_DAY * 10), [10, 0, 1, 2, 3, 4, 5, 6, 7, 8, 9])
        self.assertEqual(letin(10, ALL_DAY * 10), [10, 0, 1, 2, 3, 4, 5, 6, 7, 8, 9])
        self.assertEqual(letin(9, ALL_DAY * 10), [9, 0, 1, 2, 3, 4, 5, 6, 7, 8])


class Refused(unittest.TestCase):
    def test_too_many_places(self):
        for places in (21, 22, 2147483648, 4294967295):
            self.assertEqual(letin(places, [1, 2]), REFUSED)
            self.assertEqual(letin(places, []), REFUSED)

    def test_too_many_stays(self):
        self.assertEqual(letin(1, [1, 2] * 11), REFUSED)
        self.assertEqual(letin(1, [1, 2] * 12), REFUSED)

    def test_odd_number_of_numbers(self):
        for length in range(1, 24, 2):
            self.assertEqual(letin(1, ([1, 2] * 12)[:length]), REFUSED)

    def test_first_hour_not_less(self):
        for span in ([3, 3], [4, 3], [24, 24], [0, 0], [24, 0], [4294967295, 5]):
            self.assertEqual(letin(1, span), REFUSED)

    def test_hour_above_24(self):
        for span in ([0, 25], [24, 25], [23, 25], [30, 31], [0, 4294967295], [4294967294, 4294967295]):
            self.assertEqual(letin(1, span), REFUSED)

    def test_one_bad_stay_among_good_ones(self):
        for number in range(10):
            stays = [1, 2] * 10
            stays[2 * number:2 * number + 2] = [2, 2]
            self.assertEqual(letin(20, stays), REFUSED)

    def test_bad_stay_with_no_place(self):
        self.assertEqual(letin(0, [5, 4]), REFUSED)

    def test_both_wrong(self):
        self.assertEqual(letin(21, [5, 4, 3]), REFUSED)

    def test_every_pair_of_hours(self):
        for first in range(28):
            for until in range(28):
                wanted = [1, 0] if first < until <= 24 else REFUSED
                self.assertEqual(letin(1, [first, until]), wanted)

    def test_every_number_of_places(self):
        for places in range(40):
            wanted = REFUSED if places > 20 else [min(places, 10)] + list(range(min(places, 10)))
            self.assertEqual(letin(places, ALL_DAY * 10), wanted)


class WhatHolds(unittest.TestCase):
    def test_no_others_would_be_more(self):
        for spans, places in small_days():
            answer = letin(places, flat(spans))
            self.assertEqual(answer[0], most_that_fit(spans, places), (places, spans))

    def test_no_others_would_be_more_over_the_whole_day(self):
        for spans, places in itertools.islice(scattered_days(), 0, None, 8):
            answer = letin(places, flat(spans))
            self.assertEqual(answer[0], most_that_fit(spans, places), (places, spans))

    def test_just_those_by_the_rule(self):
        for spans, places in itertools.chain(small_days(), scattered_days()):
            kept = kept_hour_by_hour(spans, places)
            self.assertEqual(letin(places, flat(spans)), [len(kept)] + kept, (places, spans))

    def test_those_let_in_fit(self):
        for spans, places in scattered_days():
            self.assertTrue(fit(letin(places, flat(spans))[1:], spans, places), (places, spans))

    def test_all_just_if_the_peak_is_no_more_than_the_places(self):
        for spans, places in itertools.chain(small_days(), scattered_days()):
            everyone = range(len(spans))
            peak = max(len(there(everyone, spans, hour)) for hour in range(24))
            self.assertEqual(letin(places, flat(spans))[0] == len(spans), peak <= places, (places, spans))

    def test_as_many_in_whatever_order(self):
        for spans, places in itertools.islice(small_days(), 0, None, 23):
            for others in itertools.permutations(spans):
                self.assertEqual(letin(places, flat(others))[0], letin(places, flat(spans))[0], (places, others))

    def test_one_more_lets_in_no_fewer_and_one_more_at_most(self):
        for spans, places in itertools.chain(small_days(), scattered_days()):
            if spans:
                before = letin(places, flat(spans[:-1]))[0]
                after = letin(places, flat(spans))[0]
                self.assertIn(after - before, (0, 1), (places, spans))


if __name__ == "__main__":
    unittest.main()
