"""[21], [22] Harm for ever, held against a reckoning day by day."""

import copy
import unittest
from fractions import Fraction
from itertools import combinations

from turnrota.errors import InvalidSeason, NoWheel
from turnrota.rings import Harm, harm_of, lies_for_ever, mean_harm, worst_round
from turnrota.rotas import Rota

from tests.harms import can_lie, due_flags, large_harms, mild_harm, none_is_greater, some_harms, walked_harm
from tests.samples import DAILY, first_rota, no_wheels, odd_values, raised

NO_WHOLE = [True, False, None, "", "1", [], (1,), [1], ((),), -1, -(10 ** 18)]


def pair(mean):
    """A fraction as a value."""
    return None if mean is None else (mean.numerator, mean.denominator)


class Harms(unittest.TestCase):
    def test_attributes_are_the_arguments(self):
        rota = first_rota()
        harm = Harm(rota, 1, 4, 0, 2)
        self.assertIs(harm.rota, rota)
        self.assertEqual((harm.wheel, harm.span, harm.misses, harm.limit), (1, 4, 0, 2))
        harm = Harm(limit=30, misses=3, span=10, wheel=0, rota=rota)
        self.assertEqual((harm.wheel, harm.span, harm.misses, harm.limit), (0, 10, 3, 30))
        self.assertIs(harm.rota, rota)

    def test_wheels_that_are_none(self):
        for value in no_wheels(2):
            for told in ((4, 1, 2), (0, 1, 2), (None, None, None), (4, -1, 2), (4, 1, 0)):
                error = raised(Harm, first_rota(), value, *told)
                self.assertIs(type(error), NoWheel, (value, told))
                self.assertIs(error.value, value)

    def test_each_argument_wrong_in_each_way(self):
        for value in [*NO_WHOLE, *odd_values(), 0]:
            self.check("span", value, 1, 2)
            self.check("limit", 4, 1, value)
            if value != 0 or isinstance(value, bool):
                self.check("misses", 4, value, 2)
        self.assertEqual((Harm(first_rota(), 0, 1, 0, 1).span, Harm(first_rota(), 0, 1, 0, 1).misses), (1, 0))

    def check(self, word, span, misses, limit):
        error = raised(Harm, first_rota(), 0, span, misses, limit)
        self.assertIs(type(error), InvalidSeason, (span, misses, limit))
        self.assertEqual(error.word, word, (span, misses, limit))

    def test_the_first_wrong_one_is_named(self):
        for value in NO_WHOLE:
            for other in NO_WHOLE:
                self.check("span", value, other, other)
                self.check("misses", 4, value, other)
                self.check("span", value, 1, other)
                self.check("span", value, other, 2)

    def test_harms_are_not_iterable(self):
        self.assertRaises(TypeError, iter, mild_harm())


class ForEver(unittest.TestCase):
    def test_by_each_span(self):
        told = set()
        for harm in [*some_harms(), *large_harms()]:
            self.assertIs(lies_for_ever(harm), can_lie(harm))
            told.add(lies_for_ever(harm))
        self.assertEqual(told, {True, False})

    def test_wheels_that_are_never_due(self):
        rota = Rota(2, [([0], (0, 1))])
        for misses in (0, 3):
            harm = Harm(rota, 1, 10, misses, 1)
            self.assertEqual((lies_for_ever(harm), mean_harm(harm), worst_round(harm)), (True, None, None))
            self.assertEqual((harm_of(harm, 1, ()), harm_of(harm, 7, (0,))), (None, None))

    def test_as_many_misses_as_a_span_has_turnings(self):
        rota = Rota(1, [([0], [0]), ([], [0]), ([0], [0]), ([], [0]), ([], [0])])
        for span, most in ((1, 1), (2, 1), (3, 2), (4, 2), (5, 2), (6, 3), (8, 4), (10, 4)):
            for misses in range(5):
                self.assertIs(lies_for_ever(Harm(rota, 0, span, misses, 2)), misses >= most, (span, misses))

    def test_only_the_own_turnings_count(self):
        rota = Rota(2, [([0, 1], (0, 1)), ([1], (0, 1)), ([1], (0, 1))])
        self.assertEqual([lies_for_ever(Harm(rota, wheel, 3, 1, 2)) for wheel in (0, 1)], [True, False])


class Means(unittest.TestCase):
    def check(self, harm):
        if can_lie(harm):
            self.assertEqual((mean_harm(harm), worst_round(harm)), (None, None))
            return None
        days, missed = worst_round(harm)
        mean = walked_harm(harm, days, missed)
        self.assertEqual((harm_of(harm, days, missed), mean_harm(harm)), (pair(mean), pair(mean)))
        return mean

    def test_the_worst_round_has_the_mean_and_none_has_a_greater_one(self):
        means = set()
        for harm in some_harms():
            mean = self.check(harm)
            if mean is not None:
                self.assertTrue(none_is_greater(harm, mean))
                self.assertFalse(mean and none_is_greater(harm, mean - Fraction(1, 10 ** 6)))
                means.add(mean)
        self.assertGreater(len(means), 12)

    def test_all_rounds_of_a_few_days(self):
        for harm in some_harms():
            many = len(due_flags(harm.rota, harm.wheel))
            for days in range(many, 7, many):
                for size in range(days + 1):
                    for missed in combinations(range(days), size):
                        mean = walked_harm(harm, days, missed)
                        self.assertEqual(harm_of(harm, days, missed), pair(mean), (harm.span, days, missed))
                        if mean is not None and not lies_for_ever(harm):
                            self.assertLessEqual(mean, Fraction(*mean_harm(harm)))

    def test_at_the_limits(self):
        for harm in large_harms():
            self.check(harm)

    def test_by_hand(self):
        # Three misses in ten days, side by side: 1 + 2 + 3 in ten days.
        self.assertEqual(mean_harm(Harm(DAILY, 0, 10, 3, 1)), (3, 5))
        self.assertEqual(mean_harm(Harm(DAILY, 0, 10, 3, 2)), (3, 10))
        self.assertEqual(mean_harm(Harm(DAILY, 0, 10, 3, 3)), (1, 10))
        self.assertEqual(mean_harm(Harm(DAILY, 0, 10, 3, 4)), (0, 1))
        self.assertEqual(mean_harm(Harm(DAILY, 0, 2, 1, 1)), (1, 2))
        self.assertEqual(mean_harm(Harm(DAILY, 0, 1, 0, 1)), (0, 1))
        rota = Rota(4, [([0], (1, 2, 3, 0)), ([], (0, 1, 2, 3)), ([], (0, 1, 2, 3)), ([], (0, 1, 2, 3))])
        # Turned once in 16 days: it lies for 16 days each time, 6 of them beyond the limit.
        self.assertEqual(mean_harm(Harm(rota, 0, 10, 0, 10)), (21, 16))
        self.assertEqual(mean_harm(Harm(rota, 0, 10, 1, 10)), None)

    def test_kinds_of_results(self):
        days, missed = worst_round(mild_harm())
        self.assertEqual({type(told) for told in (days, *missed, *mean_harm(mild_harm()))}, {int})
        self.assertEqual((type(missed), type(worst_round(mild_harm())), type(mean_harm(mild_harm()))), (tuple,) * 3)
        self.assertEqual(days % 4, 0)


class Rounds(unittest.TestCase):
    def none(self, harm, days, missed):
        self.assertIsNone(harm_of(harm, days, missed), (days, missed))

    def test_days_that_are_none(self):
        for value in [*odd_values(), 0, -4, 1, 2, 3, 5, 6, 10 ** 18 + 2, -(10 ** 18)]:
            self.none(mild_harm(), value, ())
            self.none(mild_harm(), value, (1,))
        self.none(Harm(DAILY, 0, 2, 1, 1), True, ())
        self.assertEqual(harm_of(Harm(DAILY, 0, 2, 1, 1), 1, ()), (0, 1))

    def test_missed_days_that_are_none(self):
        harm = mild_harm()
        for value in odd_values():
            if value not in ((), (0,)):
                self.none(harm, 4, value)
            self.none(harm, 4, (value,))
            self.none(harm, 8, (0, value))
        for missed in ([1], [], (2,), (4,), (-1,), (1, 1), (True,), (False,), (5,), (1, 9)):
            self.none(harm, 4, missed)
        self.none(harm, 4, ((1,),))

    def test_lists_are_none(self):
        self.assertEqual(harm_of(mild_harm(), 4, ()), (0, 1))
        self.none(mild_harm(), 4, [])
        self.none(mild_harm(), 4, [1])

    def test_days_out_of_order_or_twice(self):
        harm = Harm(first_rota(), 0, 4, 2, 2)
        self.assertEqual(harm_of(harm, 8, (1, 5)), (1, 4))
        self.none(harm, 8, (5, 1))
        self.none(harm, 8, (1, 1))
        self.none(harm, 8, (1, 1, 5))

    def test_days_that_are_not_due(self):
        harm = Harm(first_rota(), 0, 1, 1, 2)
        self.assertEqual([harm_of(harm, 4, (day,)) is not None for day in range(5)], [True, True, False, True, False])

    def test_more_missed_in_a_span_than_may_be(self):
        self.none(mild_harm(), 4, (0, 1))
        self.none(mild_harm(), 4, (0, 3))
        self.none(mild_harm(), 8, (1, 4))
        # From the last one to the first one of the next round it is 4 days, or 3 of them.
        self.assertEqual(harm_of(mild_harm(), 8, (1, 5)), (1, 4))
        self.assertEqual(harm_of(mild_harm(), 8, (0, 4)), (0, 1))
        self.none(mild_harm(), 8, (0, 5))

    def test_spans_that_are_longer_than_the_round(self):
        for misses in range(7):
            harm = Harm(DAILY, 0, 10, misses, 1)
            self.assertEqual(harm_of(harm, 2, (0,)), (1, 2) if misses >= 5 else None)
            self.assertEqual(harm_of(harm, 3, (1,)), (1, 3) if misses >= 4 else None)
            self.assertEqual(harm_of(harm, 1, ()), (0, 1))

    def test_all_missed(self):
        self.none(Harm(DAILY, 0, 1, 1, 1), 1, (0,))
        self.none(Harm(DAILY, 0, 1, 1, 1), 2, (0, 1))
        self.assertEqual(harm_of(Harm(DAILY, 0, 1, 1, 1), 2, (0,)), (1, 2))
        self.none(Harm(first_rota(), 0, 1, 1, 1), 4, (0, 1, 3))

    def test_wheels_that_can_lie_for_ever(self):
        harm = Harm(DAILY, 0, 1, 1, 1)
        self.assertEqual([harm_of(harm, 5, tuple(range(many))) for many in range(6)],
                         [(0, 1), (1, 5), (3, 5), (6, 5), (2, 1), None])
        self.assertEqual(harm_of(harm, 40, tuple(range(1, 40))), (39, 2))

    def test_rounds_of_very_many_days(self):
        far = 10 ** 18
        self.assertEqual(harm_of(Harm(DAILY, 0, 10, 3, 1), far, (5, 6, far - 1)), (1, far // 4))
        self.assertEqual(harm_of(Harm(DAILY, 0, 10, 3, 1), far, (0, 1, far - 1)), (3, far // 2))
        self.none(Harm(DAILY, 0, 10, 3, 1), far, (0, 1, far - 2, far - 1))
        self.assertEqual(harm_of(mild_harm(), far, ()), (0, 1))
        harm = Harm(first_rota(), 0, 4, 1, 1)
        self.assertEqual(harm_of(harm, far, ()), (1, 4))


class Calling(unittest.TestCase):
    def test_parameter_names(self):
        harm = mild_harm()
        self.assertIs(lies_for_ever(harm=harm), False)
        self.assertEqual(mean_harm(harm=harm), (1, 4))
        self.assertEqual(worst_round(harm=harm), worst_round(harm))
        self.assertEqual(harm_of(missed=(1,), days=4, harm=harm), (1, 4))

    def test_the_same_call_twice_and_nothing_changes(self):
        harm = mild_harm()
        kept = copy.deepcopy((harm.rota.rows, harm.wheel, harm.span, harm.misses, harm.limit))
        calls = [(lies_for_ever, ()), (mean_harm, ()), (worst_round, ()), (harm_of, (8, (1, 5)))]
        first = [work(harm, *told) for work, told in calls]
        self.assertEqual([work(harm, *told) for work, told in reversed(calls)], first[::-1])
        self.assertEqual((harm.rota.rows, harm.wheel, harm.span, harm.misses, harm.limit), kept)
