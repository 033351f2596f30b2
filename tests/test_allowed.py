"""Tests of roomstays.hours.allowed: promise 1 as far as it speaks of it, and promise 2."""

import itertools
import unittest

from days import flat, fullest_hour, scattered_days, small_days
from roomstays.hours import allowed, letin

YES = [1]
NO = [0]
REFUSED = [-22]
ALL_DAY = [0, 24]
TEN = list(range(10))


def every_choice(count):
    for size in range(count + 1):
        yield from itertools.combinations(range(count), size)


class Ordinary(unittest.TestCase):
    def setUp(self):
        self.day = [9, 12, 10, 11, 10, 14, 11, 13, 12, 15]

    def test_some_that_are_allowed(self):
        self.assertEqual(allowed(2, self.day, [0, 1, 3, 4]), YES)
        self.assertEqual(allowed(1, self.day, [0, 4]), YES)
        self.assertEqual(allowed(3, self.day, [0, 1, 2, 3, 4]), YES)

    def test_some_that_are_not(self):
        self.assertEqual(allowed(2, self.day, [0, 1, 2]), NO)
        self.assertEqual(allowed(1, self.day, [0, 3]), NO)
        self.assertEqual(allowed(2, self.day, [0, 1, 2, 3, 4]), NO)

    def test_one_of_the_stays(self):
        for number in range(5):
            self.assertEqual(allowed(1, self.day, [number]), YES)

    def test_only_the_some_count(self):
        # All five would not be allowed with two places.
        self.assertEqual(allowed(2, self.day, [1, 2]), YES)
        self.assertEqual(allowed(2, self.day, [2, 4]), YES)
        self.assertEqual(allowed(1, [1, 5, 2, 6, 7, 8], [1, 2]), YES)
        self.assertEqual(allowed(1, [1, 5, 2, 6, 7, 8], [0, 1]), NO)

    def test_in_any_order(self):
        for some in itertools.permutations([0, 1, 3, 4]):
            self.assertEqual(allowed(2, self.day, list(some)), YES)
        for some in itertools.permutations([0, 1, 2, 4]):
            self.assertEqual(allowed(2, self.day, list(some)), NO)

    def test_too_many_in_an_hour_in_which_nobody_leaves_or_was_first(self):
        self.assertEqual(allowed(2, [3, 20, 5, 18, 7, 16], [0, 1, 2]), NO)
        self.assertEqual(allowed(3, [3, 20, 5, 18, 7, 16], [0, 1, 2]), YES)

    def test_too_many_early_or_late_in_the_day(self):
        self.assertEqual(allowed(1, [0, 2, 0, 1, 20, 21], [0, 1, 2]), NO)
        self.assertEqual(allowed(1, [3, 4, 20, 22, 21, 23], [0, 1, 2]), NO)


class Edges(unittest.TestCase):
    def test_coming_as_another_leaves(self):
        self.assertEqual(allowed(1, [0, 2, 2, 4], [0, 1]), YES)
        self.assertEqual(allowed(1, [2, 4, 0, 2], [0, 1]), YES)
        self.assertEqual(allowed(1, [1, 2, 2, 3, 3, 4], [2, 0, 1]), YES)

    def test_coming_just_before_another_leaves(self):
        self.assertEqual(allowed(1, [0, 3, 2, 4], [0, 1]), NO)
        self.assertEqual(allowed(2, [0, 3, 2, 4], [0, 1]), YES)

    def test_two_who_stay_as_long(self):
        for stays in ([0, 4, 0, 4], [0, 4, 1, 4], [7, 8, 7, 8]):
            self.assertEqual(allowed(1, stays, [0, 1]), NO)
            self.assertEqual(allowed(2, stays, [0, 1]), YES)
            self.assertEqual(allowed(1, stays, [0]), YES)
            self.assertEqual(allowed(1, stays, [1]), YES)

    def test_no_place(self):
        self.assertEqual(allowed(0, [1, 2], [0]), NO)
        self.assertEqual(allowed(0, [1, 2, 23, 24], [1]), NO)
        self.assertEqual(allowed(0, [0, 1], [0]), NO)
        self.assertEqual(allowed(0, [1, 2], []), YES)
        self.assertEqual(allowed(0, ALL_DAY * 10, []), YES)

    def test_no_stays(self):
        for places in (0, 1, 20):
            self.assertEqual(allowed(places, [], []), YES)

    def test_none_of_the_stays(self):
        for places in (0, 1, 20):
            self.assertEqual(allowed(places, [1, 5, 2, 6], []), YES)

    def test_all_day(self):
        self.assertEqual(allowed(1, ALL_DAY, [0]), YES)
        for hour in range(24):
            stays = ALL_DAY + [hour, hour + 1]
            self.assertEqual(allowed(1, stays, [0, 1]), NO)
            self.assertEqual(allowed(2, stays, [0, 1]), YES)

    def test_hour_23(self):
        self.assertEqual(allowed(1, [23, 24], [0]), YES)
        self.assertEqual(allowed(1, [0, 23, 23, 24], [0, 1]), YES)
        self.assertEqual(allowed(1, [23, 24, 23, 24], [0, 1]), NO)
        self.assertEqual(allowed(1, [22, 24, 23, 24], [0, 1]), NO)
        self.assertEqual(allowed(2, [20, 24, 22, 24, 23, 24], [2, 1, 0]), NO)

    def test_twenty_places_and_ten_stays(self):
        self.assertEqual(allowed(20, ALL_DAY * 10, TEN), YES)
        self.assertEqual(allowed(20, ALL_DAY * 10, TEN[::-1]), YES)
        self.assertEqual(allowed(20, [], []), YES)

    def test_as_many_as_there_are_places_and_one_more(self):
        for places in range(10):
            self.assertEqual(allowed(places, ALL_DAY * 10, TEN[:places]), YES)
            self.assertEqual(allowed(places, ALL_DAY * 10, TEN[:places + 1]), NO)
            self.assertEqual(allowed(places, ALL_DAY * 10, TEN[9 - places:]), NO)


class Refused(unittest.TestCase):
    def test_too_many_places(self):
        for places in (21, 22, 2147483648, 4294967295):
            self.assertEqual(allowed(places, [1, 2], [0]), REFUSED)
            self.assertEqual(allowed(places, [1, 2], []), REFUSED)
            self.assertEqual(allowed(places, [], []), REFUSED)

    def test_too_many_stays(self):
        for count in (11, 12):
            self.assertEqual(allowed(1, [1, 2] * count, [0]), REFUSED)
            self.assertEqual(allowed(20, [1, 2] * count, []), REFUSED)

    def test_odd_number_of_numbers(self):
        for length in range(1, 24, 2):
            self.assertEqual(allowed(20, ([1, 2] * 12)[:length], []), REFUSED)
            self.assertEqual(allowed(20, ([1, 2] * 12)[:length], [0]), REFUSED)

    def test_every_pair_of_hours(self):
        for first in range(28):
            for until in range(28):
                wanted = YES if first < until <= 24 else REFUSED
                self.assertEqual(allowed(1, [first, until], [0]), wanted)
                self.assertEqual(allowed(1, [first, until], []), wanted)

    def test_very_large_hours(self):
        for span in ([0, 4294967295], [4294967295, 5], [4294967294, 4294967295]):
            self.assertEqual(allowed(1, span, [0]), REFUSED)

    def test_bad_stay_that_is_not_among_the_some(self):
        for number in range(10):
            for bad in ([2, 2], [3, 2], [23, 25]):
                stays = [1, 2] * 10
                stays[2 * number:2 * number + 2] = bad
                self.assertEqual(allowed(20, stays, [(number + 1) % 10]), REFUSED)

    def test_number_of_a_stay_that_there_is_not(self):
        for count in range(11):
            for number in (count, count + 1, 24, 2147483648, 4294967295):
                self.assertEqual(allowed(20, [1, 2] * count, [number]), REFUSED)
                self.assertEqual(allowed(20, [1, 2] * count, list(range(count - 1)) + [number]), REFUSED)
                self.assertEqual(allowed(20, [1, 2] * count, [number] + list(range(count - 1))), REFUSED)

    def test_greatest_number_that_there_is(self):
        for count in range(1, 11):
            self.assertEqual(allowed(20, [1, 2] * count, [count - 1]), YES)

    def test_any_number_where_there_are_no_stays(self):
        for number in (0, 1, 9, 4294967295):
            self.assertEqual(allowed(1, [], [number]), REFUSED)
            self.assertEqual(allowed(0, [], [number]), REFUSED)

    def test_same_number_twice(self):
        self.assertEqual(allowed(20, [1, 2, 3, 4], [0, 0]), REFUSED)
        self.assertEqual(allowed(20, [1, 2, 3, 4, 5, 6], [1, 1]), REFUSED)
        self.assertEqual(allowed(20, [1, 2, 3, 4, 5, 6], [2, 0, 2]), REFUSED)
        self.assertEqual(allowed(20, [1, 2] * 10, TEN[:9] + [0]), REFUSED)
        self.assertEqual(allowed(20, [1, 2] * 10, [5] * 10), REFUSED)

    def test_more_numbers_than_there_are_stays(self):
        self.assertEqual(allowed(20, [1, 2], [0, 0]), REFUSED)
        self.assertEqual(allowed(20, [1, 2], [0, 1]), REFUSED)
        self.assertEqual(allowed(20, [1, 2] * 10, TEN + [10]), REFUSED)
        self.assertEqual(allowed(20, [1, 2] * 10, TEN + [9]), REFUSED)
        self.assertEqual(allowed(20, [1, 2] * 10, list(range(24))), REFUSED)
        self.assertEqual(allowed(20, [1, 2] * 10, [0] * 24), REFUSED)

    def test_refused_also_where_they_would_not_be_allowed(self):
        self.assertEqual(allowed(0, [1, 2], [1]), REFUSED)
        self.assertEqual(allowed(0, [1, 2, 1, 2], [0, 0]), REFUSED)
        self.assertEqual(allowed(1, [1, 2, 1, 2], [0, 1, 2]), REFUSED)

    def test_all_wrong(self):
        self.assertEqual(allowed(21, [5, 4, 3], [7, 7]), REFUSED)

    def test_every_number_of_places(self):
        for places in range(40):
            wanted = REFUSED if places > 20 else YES if places >= 10 else NO
            self.assertEqual(allowed(places, ALL_DAY * 10, TEN), wanted)


class WhatHolds(unittest.TestCase):
    def test_just_where_the_fullest_hour_has_no_more_than_the_places(self):
        for spans, places in itertools.islice(small_days(), 0, None, 3):
            for some in every_choice(len(spans)):
                wanted = YES if fullest_hour(some, spans) <= places else NO
                self.assertEqual(allowed(places, flat(spans), list(some)), wanted, (places, spans, some))

    def test_just_so_over_the_whole_day(self):
        for spans, places in scattered_days():
            for some in (TEN, TEN[::-1], TEN[:5], TEN[5:], TEN[1::2], [8, 3, 9]):
                wanted = YES if fullest_hour(some, spans) <= places else NO
                self.assertEqual(allowed(places, flat(spans), some), wanted, (places, spans, some))

    def test_those_let_in_are_allowed(self):
        for spans, places in itertools.chain(small_days(), scattered_days()):
            inside = letin(places, flat(spans))[1:]
            self.assertEqual(allowed(places, flat(spans), inside), YES, (places, spans))

    def test_no_more_than_those_let_in_are_allowed(self):
        for spans, places in itertools.islice(small_days(), 0, None, 7):
            most = max(len(some) for some in every_choice(len(spans))
                       if allowed(places, flat(spans), list(some)) == YES)
            self.assertEqual(letin(places, flat(spans))[0], most, (places, spans))

    def test_all_are_let_in_just_if_all_are_allowed(self):
        for spans, places in itertools.chain(small_days(), scattered_days()):
            everyone = list(range(len(spans)))
            all_in = letin(places, flat(spans)) == [len(spans)] + everyone
            self.assertEqual(allowed(places, flat(spans), everyone), YES if all_in else NO, (places, spans))


if __name__ == "__main__":
    unittest.main()
