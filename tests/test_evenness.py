"""[17], [18] Even days, held against going round the ring step by step and against trials of all days."""

import copy
import random
import unittest
from itertools import combinations

from turnrota.errors import InvalidDays
from turnrota.evenness import even_days, is_best, least_gap, no_longer, ring_gap

from tests.samples import odd_values, raised

FAR = 10 ** 9


def walked_gap(days, period, misses):
    """The greatest gap by going day by day round the ring, from each of the days."""
    longest = 0
    for first in days:
        day, left = first, misses + 1
        while left:
            day += 1
            left -= day % period in days
        longest = max(longest, day - first)
    return longest


def lots(period):
    """All lots of days of a ring."""
    for many in range(1, period + 1):
        yield from combinations(range(period), many)


def some_days(source, period, many):
    """So many days of a ring in any order."""
    return source.sample(range(period), many)


class Gaps(unittest.TestCase):
    def test_step_by_step(self):
        for period in range(1, 8):
            for days in lots(period):
                for misses in range(2 * len(days) + 2):
                    self.assertEqual(ring_gap(days, period, misses), walked_gap(days, period, misses))

    def test_days_in_any_order_as_lists_and_tuples(self):
        source = random.Random(3)
        for _ in range(200):
            period = source.randint(1, 40)
            days = some_days(source, period, source.randint(1, min(12, period)))
            kept = list(days)
            for misses in (0, 1, 5, 13):
                told = walked_gap(days, period, misses)
                self.assertEqual((ring_gap(days, period, misses), ring_gap(tuple(days), period, misses)), (told, told))
            self.assertEqual(days, kept)

    def test_one_day_and_all_days(self):
        for period in (1, 2, 7):
            for misses in (0, 1, 6, 7, FAR):
                self.assertEqual(ring_gap([period - 1], period, misses), (misses + 1) * period)
                self.assertEqual(ring_gap(list(range(period)), period, misses), misses + 1)

    def test_a_whole_time_round_is_the_period(self):
        self.assertEqual([ring_gap([4, 0, 1], 7, misses) for misses in range(6)], [3, 6, 7, 10, 13, 14])

    def test_many_misses_and_long_periods(self):
        self.assertEqual(ring_gap([0], FAR, FAR), (FAR + 1) * FAR)
        self.assertEqual(ring_gap([FAR - 1, 0], FAR, 0), FAR - 1)
        self.assertEqual(ring_gap([FAR - 1, 0], FAR, FAR), FAR // 2 * FAR + FAR - 1)
        days = [at * at for at in range(60)]
        self.assertEqual(ring_gap(days, FAR, 59), FAR)
        self.assertEqual(ring_gap(days, FAR, 0), FAR - 59 * 59)
        self.assertEqual(ring_gap(days, FAR, 6 * 10 ** 8 + 60), 10 ** 7 * FAR + FAR + FAR - 59 * 59)


class EvenDays(unittest.TestCase):
    def test_as_the_formula_tells(self):
        for period in range(1, 25):
            for turnings in range(1, period + 1):
                days = even_days(period, turnings)
                self.assertEqual(days, tuple((at * period + turnings - 1) // turnings for at in range(turnings)))
                self.assertEqual(days, tuple(sorted(set(days))))
                self.assertEqual((days[0], days[-1] < period, len(days)), (0, True, turnings))

    def test_long_periods(self):
        self.assertEqual(even_days(FAR, 3), (0, 333333334, 666666667))
        self.assertEqual(len(set(even_days(FAR, 60))), 60)
        self.assertEqual(even_days(60, 60), tuple(range(60)))

    def test_have_the_least_gaps(self):
        for period in (1, 2, 9, 10, 37, FAR, FAR - 1):
            for turnings in (1, 2, 3, 7, 10, 59, 60):
                if turnings <= period:
                    for misses in (0, 1, 2, 6, 58, 59, 60, FAR):
                        self.assertEqual(ring_gap(even_days(period, turnings), period, misses),
                                         least_gap(period, turnings, misses))


class LeastGap(unittest.TestCase):
    def test_against_all_lots(self):
        for period in range(1, 9):
            for turnings in range(1, period + 1):
                for misses in range(2 * turnings + 1):
                    gaps = [walked_gap(days, period, misses) for days in combinations(range(period), turnings)]
                    self.assertEqual(least_gap(period, turnings, misses), min(gaps))

    def test_many_turnings_and_misses(self):
        self.assertEqual(least_gap(FAR, FAR, FAR), FAR + 1)
        self.assertEqual(least_gap(FAR, 1, FAR), FAR * (FAR + 1))
        self.assertEqual(least_gap(FAR, FAR - 1, 0), 2)
        self.assertEqual(least_gap(FAR, FAR - 1, FAR - 2), FAR)
        self.assertEqual(least_gap(FAR, 7, 3), 571428572)


class Best(unittest.TestCase):
    def best(self, days, period):
        """Whether no number of misses up to three times round has a lesser gap, of all lots of so many days."""
        return all(walked_gap(days, period, misses) == -(-(misses + 1) * period // len(days))
                   for misses in range(3 * len(days)))

    def test_against_all_numbers_of_misses(self):
        told = set()
        for period in range(1, 9):
            for days in lots(period):
                self.assertIs(is_best(days, period), self.best(days, period))
                self.assertIs(is_best(list(days)[::-1], period), self.best(days, period))
                told.add(is_best(days, period))
        self.assertEqual(told, {True, False})

    def test_even_days_moved_on(self):
        for period, turnings in ((7, 3), (12, 5), (60, 59), (61, 60), (FAR, 60), (FAR, 7)):
            for further in (0, 1, 5, period - 1):
                days = [(day + further) % period for day in even_days(period, turnings)]
                self.assertIs(is_best(days, period), True)

    def test_one_day_and_all_days(self):
        for period in (1, 2, 7, 60):
            self.assertIs(is_best([period - 1], period), True)
            self.assertIs(is_best(tuple(range(period)), period), True)
        self.assertIs(is_best([FAR - 1], FAR), True)

    def test_a_day_that_was_moved(self):
        for at in range(1, 60):
            days = list(even_days(600, 60))
            days[at] += 1
            self.assertIs(is_best(days, 600), False)

    def test_the_least_gap_without_misses_is_not_enough(self):
        # Gaps of 2, 2, 1, 1 days: the greatest one is least, but two of them are 4 days where 3 would do.
        self.assertEqual(ring_gap([0, 2, 4, 5], 6, 0), least_gap(6, 4, 0))
        self.assertIs(is_best([0, 2, 4, 5], 6), False)
        self.assertIs(is_best([0, 2, 3, 5], 6), True)


class NoLonger(unittest.TestCase):
    def test_against_many_numbers_of_misses(self):
        told = set()
        for period in range(1, 7):
            gaps = {days: [walked_gap(days, period, misses) for misses in range(62)] for days in lots(period)}
            for days in gaps:
                for others in gaps:
                    held = all(one <= other for one, other in zip(gaps[days], gaps[others]))
                    self.assertIs(no_longer(days, others, period), held, (days, others, period))
                    told.add((held, len(days) < len(others), len(days) > len(others)))
        self.assertEqual(told, {(True, False, False), (False, False, False), (False, True, False),
                                (True, False, True), (False, False, True)})

    def test_up_to_a_common_multiple_and_beyond(self):
        source = random.Random(8)
        told = set()
        for _ in range(300):
            period = source.randint(12, 30)
            days = some_days(source, period, source.randint(3, 12))
            others = some_days(source, period, source.randint(3, 12))
            gaps = [(ring_gap(days, period, misses), ring_gap(others, period, misses)) for misses in range(300)]
            held = all(one <= other for one, other in gaps)
            self.assertIs(no_longer(days, others, period), held)
            told.add(held)
        self.assertEqual(told, {True, False})

    def test_fewer_days_are_longer_at_some_time(self):
        # 59 even days and 60 that stand together: it takes many misses until the greater number tells.
        self.assertIs(no_longer(even_days(FAR, 59), range_days(60), FAR), False)
        self.assertIs(no_longer(even_days(FAR, 60), range_days(59), FAR), True)
        self.assertIs(no_longer(even_days(FAR, 60), range_days(60), FAR), True)
        self.assertIs(no_longer(range_days(60), even_days(FAR, 59), FAR), False)

    def test_longer_with_many_misses_only(self):
        days, others = (0, 2, 4, 6, 8, 10), (0, 1, 2, 3, 4, 11)
        self.assertIs(no_longer(days, others, 12), True)
        self.assertIs(no_longer(others, days, 12), False)
        # Four even days are as good as any for three misses, but not for two.
        self.assertEqual(ring_gap((0, 1, 6, 7), 12, 3), ring_gap((0, 3, 6, 9), 12, 3))
        self.assertIs(no_longer((0, 1, 6, 7), (0, 3, 6, 9), 12), False)

    def test_equal_days_and_days_moved_on(self):
        for period in (7, FAR):
            self.assertIs(no_longer([5, 0, 3], (0, 3, 5), period), True)
            self.assertIs(no_longer([0, 3, 5], (1, 4, 6), period), True)
            self.assertIs(no_longer([1, 4, 6], (0, 3, 5), period), True)


def range_days(many):
    return tuple(range(many))


class Errors(unittest.TestCase):
    def calls(self, value, period):
        return [(ring_gap, (value, period, 0)), (ring_gap, (value, period, FAR)), (is_best, (value, period)),
                (no_longer, (value, [0], period)), (no_longer, ([0], value, period)),
                (no_longer, (value, [0, 0], period)), (no_longer, (value, None, period))]

    def check(self, value, period, at):
        for work, told in self.calls(value, period):
            error = raised(work, *told)
            self.assertIs(type(error), InvalidDays, (work, told))
            self.assertEqual(error.at, at, (work, told))

    def test_what_is_no_sequence_or_empty(self):
        for value in [None, 0, 3, True, "", "0", "03", [], ()]:
            self.check(value, 7, 0)
        for value in odd_values():
            if not isinstance(value, (list, tuple)):
                self.check(value, 7, 0)

    def test_any_values_among_the_days(self):
        for value in odd_values() + [-1, -7, 7, 8, FAR, -FAR]:
            self.check([value], 7, 0)
            self.check((3, value), 7, 1)
            self.check([3, 0, value, value, 3], 7, 2)

    def test_bools_are_no_days(self):
        self.check([True], 7, 0)
        self.check([0, True], 7, 1)
        self.check([1, True], 7, 1)
        self.check([False, 0], 7, 0)

    def test_a_day_twice(self):
        self.check([0, 0], 7, 1)
        self.check((5, 3, 0, 3, 9), 7, 3)
        self.check([5, 3, 9, 3], 7, 2)
        self.check([0] * 60, 1, 1)

    def test_days_from_the_period_on(self):
        self.check([1], 1, 0)
        self.check([0, 2], 2, 1)
        self.assertEqual(ring_gap([0, 1], 2, 0), 1)

    def test_errors_of_the_first_ones_come_first(self):
        self.assertEqual(raised(no_longer, [0, 1, 9], [9], 7).at, 2)
        self.assertEqual(raised(no_longer, [0, 1, 6], [3, 9], 7).at, 1)
        self.assertEqual(raised(no_longer, [0, 1, 6], [], 7).at, 0)
        self.assertEqual(raised(no_longer, [0, 1, 1], "", 7).at, 2)


class Calling(unittest.TestCase):
    def test_parameter_names(self):
        self.assertEqual(ring_gap(misses=1, period=7, days=[0, 1, 4]), 6)
        self.assertEqual(even_days(turnings=3, period=7), (0, 3, 5))
        self.assertEqual(least_gap(misses=1, turnings=3, period=7), 5)
        self.assertIs(is_best(period=7, days=[1, 3, 5]), True)
        self.assertIs(no_longer(period=7, others=[0, 1, 2], days=[0, 3, 5]), True)

    def test_the_same_call_twice_and_nothing_changes(self):
        days, others = [4, 0, 1], [6, 2, 0]
        kept = copy.deepcopy((days, others))
        calls = [(ring_gap, (days, 7, 5)), (even_days, (7, 3)), (least_gap, (7, 3, 5)), (is_best, (days, 7)),
                 (no_longer, (days, others, 7)), (no_longer, (others, days, 7))]
        first = [work(*told) for work, told in calls]
        self.assertEqual([work(*told) for work, told in reversed(calls)], first[::-1])
        self.assertEqual((days, others), kept)

    def test_kinds_of_results(self):
        self.assertEqual({type(told) for told in (ring_gap([0], 7, 0), least_gap(7, 3, 0), *even_days(7, 3))}, {int})
        self.assertIs(type(even_days(7, 3)), tuple)
