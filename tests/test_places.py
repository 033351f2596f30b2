"""Tests of roomstays.hours.places: promise 1 as far as it speaks of it, and promise 3."""

import itertools
import unittest

from days import every_row, flat, most_that_fit, scattered_rows, small_rows
from roomstays.hours import letin, places

REFUSED = [-22]
ALL_DAY = [0, 24]


def most_by_leaving(spans, room):
    """How many can be let in, reckoned otherwise: who leaves first is seated first,
    on the place that is free from the latest hour up to the one from which they stay."""
    free_from = [0] * room
    seated = 0
    for first, until in sorted(spans, key=lambda span: span[1]):
        fitting = [hour for hour in free_from if hour <= first]
        if fitting:
            free_from.remove(max(fitting))
            free_from.append(until)
            seated += 1
    return seated


class Ordinary(unittest.TestCase):
    def test_stays_that_meet(self):
        self.assertEqual(places([8, 10, 9, 11]), [3, 0, 1, 2])
        self.assertEqual(places([0, 9, 1, 8, 2, 7, 3, 6, 4, 5]), [6, 0, 1, 2, 3, 4, 5])

    def test_stays_that_do_not_meet(self):
        self.assertEqual(places([1, 3, 5, 8, 10, 11]), [4, 0, 3, 3, 3])

    def test_each_place_lets_in_some_more(self):
        self.assertEqual(places([9, 12, 10, 11, 10, 14, 11, 13, 12, 15]), [6, 0, 2, 4, 5, 5, 5])
        self.assertEqual(places([0, 24, 0, 12, 12, 24, 1, 3, 3, 5]), [6, 0, 3, 4, 5, 5, 5])
        self.assertEqual(places([0, 9, 0, 9, 1, 2, 2, 3, 3, 4, 3, 8]), [7, 0, 3, 4, 5, 6, 6, 6])
        self.assertEqual(places([0, 1, 0, 1, 1, 2, 1, 2, 5, 6, 5, 6, 7, 9]), [8, 0, 4, 7, 7, 7, 7, 7, 7])

    def test_in_any_order(self):
        for spans in itertools.permutations([(9, 12), (10, 11), (10, 14), (11, 13), (12, 15)]):
            self.assertEqual(places(flat(spans)), [6, 0, 2, 4, 5, 5, 5])


class Edges(unittest.TestCase):
    def test_coming_as_another_leaves(self):
        self.assertEqual(places([0, 2, 2, 4]), [3, 0, 2, 2])
        self.assertEqual(places([2, 4, 0, 2]), [3, 0, 2, 2])
        self.assertEqual(places([0, 2, 0, 2, 2, 4, 2, 4]), [5, 0, 2, 4, 4, 4])

    def test_coming_just_before_another_leaves(self):
        self.assertEqual(places([0, 3, 2, 4]), [3, 0, 1, 2])
        self.assertEqual(places([2, 4, 0, 3]), [3, 0, 1, 2])

    def test_two_who_stay_as_long(self):
        for stays in ([0, 4, 0, 4], [0, 4, 1, 4], [1, 4, 0, 4], [0, 3, 1, 4], [7, 8, 7, 8]):
            self.assertEqual(places(stays), [3, 0, 1, 2])

    def test_no_place_lets_in_nobody(self):
        for count in range(11):
            self.assertEqual(places([1, 2] * count)[1], 0)
            self.assertEqual(places(flat((2 * at, 2 * at + 1) for at in range(count)))[1], 0)

    def test_no_stays(self):
        self.assertEqual(places([]), [1, 0])

    def test_one_stay(self):
        self.assertEqual(places([8, 10]), [2, 0, 1])
        self.assertEqual(places(ALL_DAY), [2, 0, 1])
        for hour in range(24):
            self.assertEqual(places([hour, hour + 1]), [2, 0, 1])

    def test_all_day(self):
        self.assertEqual(places(ALL_DAY * 2), [3, 0, 1, 2])
        for hour in range(24):
            self.assertEqual(places(ALL_DAY + [hour, hour + 1]), [3, 0, 1, 2])
            self.assertEqual(places([hour, hour + 1] + ALL_DAY), [3, 0, 1, 2])

    def test_place_freed_for_two_short_stays(self):
        self.assertEqual(places([0, 3, 1, 2, 2, 3]), [4, 0, 2, 3, 3])
        self.assertEqual(places(ALL_DAY + [1, 2, 2, 3]), [4, 0, 2, 3, 3])
        self.assertEqual(places([1, 2, 2, 3] + ALL_DAY), [4, 0, 2, 3, 3])
        self.assertEqual(places(ALL_DAY * 2 + [1, 2, 2, 3]), [5, 0, 2, 3, 4, 4])

    def test_hour_23(self):
        self.assertEqual(places([23, 24]), [2, 0, 1])
        self.assertEqual(places([0, 23, 23, 24]), [3, 0, 2, 2])
        self.assertEqual(places([23, 24, 22, 24]), [3, 0, 1, 2])
        self.assertEqual(places([23, 24, 23, 24, 23, 24]), [4, 0, 1, 2, 3])

    def test_ten_stays_at_once(self):
        for stays in (ALL_DAY * 10, [0, 1] * 10, [12, 15] * 10, [23, 24] * 10):
            self.assertEqual(places(stays), [11, 0, 1, 2, 3, 4, 5, 6, 7, 8, 9, 10])

    def test_ten_stays_one_behind_another(self):
        spans = [(2 * number, 2 * number + 2) for number in range(10)]
        self.assertEqual(places(flat(spans)), [11, 0] + [10] * 10)
        self.assertEqual(places(flat(spans[::-1])), [11, 0] + [10] * 10)

    def test_every_number_of_stays(self):
        for count in range(11):
            self.assertEqual(places([5, 7] * count), [count + 1] + list(range(count + 1)))


class Refused(unittest.TestCase):
    def test_too_many_stays(self):
        for count in (11, 12):
            self.assertEqual(places([1, 2] * count), REFUSED)
            self.assertEqual(places(flat((hour, hour + 1) for hour in range(count))), REFUSED)

    def test_odd_number_of_numbers(self):
        for length in range(1, 24, 2):
            self.assertEqual(places(([1, 2] * 12)[:length]), REFUSED)
        self.assertEqual(places([0]), REFUSED)

    def test_every_pair_of_hours(self):
        for first in range(28):
            for until in range(28):
                wanted = [2, 0, 1] if first < until <= 24 else REFUSED
                self.assertEqual(places([first, until]), wanted)

    def test_very_large_hours(self):
        for span in ([0, 2147483648], [0, 4294967295], [4294967295, 5], [4294967294, 4294967295]):
            self.assertEqual(places(span), REFUSED)
            self.assertEqual(places([1, 2] + span), REFUSED)

    def test_one_bad_stay_among_good_ones(self):
        for number in range(10):
            for bad in ([2, 2], [3, 2], [24, 24], [23, 25], [25, 26], [0, 4294967295]):
                stays = [1, 2] * 10
                stays[2 * number:2 * number + 2] = bad
                self.assertEqual(places(stays), REFUSED)


class WhatHolds(unittest.TestCase):
    def test_one_more_than_there_are_stays_and_just_so_many_behind_it(self):
        for spans in every_row():
            answer = places(flat(spans))
            self.assertEqual(answer[0], len(spans) + 1, spans)
            self.assertEqual(len(answer), len(spans) + 2, spans)

    def test_each_is_what_letin_answers_first(self):
        for spans in every_row():
            for room, count in enumerate(places(flat(spans))[1:]):
                self.assertEqual(letin(room, flat(spans))[0], count, (room, spans))

    def test_none_is_less_than_the_one_ahead_of_it(self):
        for spans in every_row():
            counts = places(flat(spans))[1:]
            self.assertEqual(counts, sorted(counts), spans)

    def test_the_last_one_is_the_number_of_the_stays(self):
        for spans in every_row():
            self.assertEqual(places(flat(spans))[-1], len(spans), spans)

    def test_more_places_than_stays_would_let_in_no_more(self):
        for spans in every_row():
            for room in (len(spans) + 1, 20):
                self.assertEqual(letin(room, flat(spans))[0], places(flat(spans))[-1], spans)

    def test_as_many_as_by_seating_who_leaves_first(self):
        for spans in every_row():
            wanted = [most_by_leaving(spans, room) for room in range(len(spans) + 1)]
            self.assertEqual(places(flat(spans))[1:], wanted, spans)

    def test_as_many_as_by_trying_every_choice(self):
        small = itertools.islice(small_rows(), 0, None, 5)
        scattered = itertools.islice(scattered_rows(), 0, None, 60)
        for spans in itertools.chain(small, scattered):
            wanted = [most_that_fit(spans, room) for room in range(len(spans) + 1)]
            self.assertEqual(places(flat(spans))[1:], wanted, spans)


if __name__ == "__main__":
    unittest.main()
