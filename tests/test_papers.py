"""[23] Papers, held against a reckoning of the tests' own."""

import copy
import random
import unittest
from fractions import Fraction
from itertools import combinations

from turnrota.papers import paper, paper_holds
from turnrota.rings import Harm, lies_for_ever, mean_harm
from turnrota.rotas import Rota

from tests.harms import due_flags, large_harms, mild_harm, some_harms
from tests.samples import DAILY, first_rota, odd_values


def next_made(harm, flags, stand):
    """The made turnings (days later, stand) that can come next, with all misses written as days."""
    day, missed = stand
    days = [day - back for back in missed]
    later = day + 1
    while True:
        if flags[later % len(flags)]:
            back = tuple(sorted(later - on for on in days if later - on < harm.span))
            yield later - day, (later % len(flags), back)
            days = days + [later]
            if any(sum(first <= on < first + harm.span for on in days) > harm.misses
                   for first in range(later - harm.span + 1, later + 1)):
                return
        later += 1


def is_right(harm, value, told):
    """Whether a tuple of entries with integers is a right paper, by the document's words."""
    flags, (p, q) = due_flags(harm.rota, harm.wheel), value
    weights = {(day, missed): weight for day, missed, weight in told}
    if len(weights) < len(told) or any((day, ()) not in weights for day, due in enumerate(flags) if due):
        return False
    for day, missed in weights:
        if not 0 <= day < len(flags) or not flags[day] or list(missed) != sorted(set(missed)):
            return False
        if any(not 0 < back < harm.span or not flags[(day - back) % len(flags)] for back in missed):
            return False
        if len(missed) > harm.misses:
            return False
        for days, stand in next_made(harm, flags, (day, missed)):
            harms = sum(max(0, on + 1 - harm.limit) for on in range(days))
            if stand not in weights or weights[stand] < weights[day, missed] + q * harms - p * days:
                return False
    return True


def stands(harm):
    """All stands of a harm."""
    flags = due_flags(harm.rota, harm.wheel)
    return [(day, missed) for day, due in enumerate(flags) if due for size in range(harm.misses + 1)
            for missed in combinations(range(1, harm.span), size)
            if all(flags[(day - back) % len(flags)] for back in missed)]


def bounded():
    """The small harms whose wheel can't lie for ever, with their greatest means."""
    return [(harm, Fraction(*mean_harm(harm))) for harm in some_harms() if not lies_for_ever(harm)]


class Papers(unittest.TestCase):
    def check(self, harm, value, there):
        told = paper(harm, value)
        if there:
            self.assertTrue(is_right(harm, value, told), value)
            self.assertIs(paper_holds(harm, value, told), True)
        else:
            self.assertIsNone(told, value)
        return told

    def test_for_the_greatest_mean_and_values_above_and_below_it(self):
        for harm, mean in bounded():
            self.check(harm, (mean.numerator, mean.denominator), True)
            for more in (Fraction(1, 10 ** 6), Fraction(1, 7), Fraction(5)):
                self.check(harm, ((mean + more).numerator, (mean + more).denominator), True)
                self.check(harm, ((mean - more).numerator, (mean - more).denominator), False)

    def test_values_in_greater_figures(self):
        for harm, mean in bounded():
            for times in (2, 3, 10 ** 9):
                p, q = mean.numerator * times, mean.denominator * times
                self.check(harm, (p, q), True)
                self.check(harm, (p + 1, q), True)
                self.check(harm, (p - 1, q), False)

    def test_zero_and_below(self):
        for harm, mean in bounded():
            for q in (1, 2, 10 ** 9):
                self.check(harm, (0, q), mean == 0)
                self.check(harm, (-1, q), False)
            self.check(harm, (-(10 ** 9), 1), False)

    def test_none_where_the_wheel_can_lie_for_ever(self):
        harms = [harm for harm in some_harms() if lies_for_ever(harm)]
        harms += [Harm(Rota(2, [([0], (0, 1))]), 1, 10, 0, 30), Harm(DAILY, 0, 1, 1, 30)]
        for harm in harms:
            for value in ((0, 1), (1, 4), (10 ** 9, 1), (-1, 1)):
                self.assertIsNone(paper(harm, value))
                for told in ((), ((0, (), 0),), None, paper(mild_harm(), (1, 4))):
                    self.assertIs(paper_holds(harm, value, told), False)

    def test_at_the_limits(self):
        for harm in large_harms():
            if not lies_for_ever(harm):
                p, q = mean_harm(harm)
                told = paper(harm, (p, q))
                self.assertIs(paper_holds(harm, (p, q), told), True)
                self.assertIs(paper_holds(harm, (2 * p - 1, 2 * q), told), False)
                self.assertIsNone(paper(harm, (10 ** 6 * p - 1, 10 ** 6 * q)))
                self.assertTrue(is_right(harm, (p, q), told))

    def test_kinds(self):
        told = paper(mild_harm(), (1, 4))
        self.assertIs(type(told), tuple)
        for entry in told:
            self.assertEqual((type(entry), len(entry)), (tuple, 3))
            self.assertEqual([type(part) for part in entry], [int, tuple, int])
        self.assertLessEqual({(0, ()), (1, ()), (3, ())}, {entry[:2] for entry in told})


class Holding(unittest.TestCase):
    def both(self, harm, value, told):
        """Whether it holds, the same by both reckonings."""
        held = paper_holds(harm, value, told)
        self.assertIs(held, is_right(harm, value, told), told)
        return held

    def test_entries_in_another_order_and_all_weights_raised(self):
        source = random.Random(5)
        for harm, mean in bounded():
            value = (mean.numerator, mean.denominator)
            told = paper(harm, value)
            self.assertTrue(self.both(harm, value, tuple(source.sample(told, len(told)))))
            for more in (1, -17, 10 ** 18):
                raised = tuple((day, missed, weight + more) for day, missed, weight in told)
                self.assertTrue(self.both(harm, value, raised))

    def test_an_entry_less_or_twice(self):
        for harm, mean in bounded():
            value = (mean.numerator, mean.denominator)
            told = paper(harm, value)
            for at in range(len(told)):
                self.both(harm, value, told[:at] + told[at + 1:])
                self.assertFalse(self.both(harm, value, told[:at + 1] + told[at:]))
                day, missed, weight = told[at]
                self.assertFalse(paper_holds(harm, value, told + ((day, missed, weight + 1),)))
            self.assertFalse(paper_holds(harm, value, ()))

    def test_each_entry_is_needed(self):
        # All stands that can come are told here, so none of them may be missing.
        harm = Harm(DAILY, 0, 4, 1, 1)
        told = paper(harm, (1, 4))
        self.assertEqual(len(told), 4)
        for at in range(4):
            self.assertIs(paper_holds(harm, (1, 4), told[:at] + told[at + 1:]), False)

    def test_weights_otherwise(self):
        for harm, mean in bounded():
            value = (mean.numerator, mean.denominator)
            told = paper(harm, value)
            for at, (day, missed, weight) in enumerate(told):
                for more in (1, -1, 1000, -1000):
                    self.both(harm, value, told[:at] + ((day, missed, weight + more),) + told[at + 1:])

    def test_stands_otherwise_and_put_in(self):
        for harm, mean in bounded()[::3]:
            value = (mean.numerator, mean.denominator)
            told = paper(harm, value)
            others = [(day, missed) for day in range(-1, 5) for size in range(3)
                      for missed in combinations(range(-1, 7), size)]
            for day, missed in others:
                self.both(harm, value, told + ((day, missed, 0),))
                self.both(harm, value, told + ((day, missed, -1000),))
                self.both(harm, value, ((day, missed, told[0][2]),) + told[1:])

    def test_all_stands_are_told(self):
        # Each stand can come behind made turnings alone, so a right paper has all of them.
        for harm, mean in bounded():
            told = paper(harm, (mean.numerator, mean.denominator))
            self.assertEqual(sorted(entry[:2] for entry in told), sorted(stands(harm)))

    def test_misses_out_of_order_or_twice_or_too_many(self):
        harm = Harm(DAILY, 0, 6, 3, 1)
        value = mean_harm(harm)
        told = paper(harm, value)
        self.assertTrue(any(entry[1] == (1, 2) for entry in told))
        for missed in ((2, 1), (1, 1), (1, 1, 2), (1, 2, 3, 4), (6,), (0,), (-1,), (1, 6)):
            self.assertFalse(paper_holds(harm, value, told + ((0, missed, -1000),)), missed)

    def test_other_harms_and_values(self):
        told = paper(mild_harm(), (1, 4))
        self.assertTrue(paper_holds(Harm(first_rota(), 0, 4, 1, 3), (1, 4), told))
        self.assertFalse(paper_holds(Harm(first_rota(), 0, 4, 1, 1), (1, 4), told))
        self.assertFalse(paper_holds(Harm(first_rota(), 1, 4, 1, 2), (1, 4), told))
        self.assertTrue(paper_holds(mild_harm(), (2, 8), paper(mild_harm(), (2, 8))))
        self.assertFalse(paper_holds(mild_harm(), (0, 1), told))


class AnyValues(unittest.TestCase):
    def test_values_that_are_no_papers(self):
        for value in [*odd_values(), 0, 1, (1, 4), ((0, ()),), ((0, (), 0),), ((0, (), 0, 0),)]:
            self.assertIs(paper_holds(mild_harm(), (1, 4), value), False)

    def test_values_in_the_place_of_an_entry_or_of_its_parts(self):
        told = paper(mild_harm(), (1, 4))
        for value in odd_values():
            self.assertIs(paper_holds(mild_harm(), (1, 4), told + (value,)), False)
            self.assertIs(paper_holds(mild_harm(), (1, 4), (value,) + told[1:]), False)
            self.assertIs(paper_holds(mild_harm(), (1, 4), ((value,) + told[0][1:],) + told[1:]), False)
            self.assertIs(paper_holds(mild_harm(), (1, 4), (told[0][:2] + (value,),) + told[1:]), False)
            if value not in ((), told[0][1]):
                self.assertIs(paper_holds(mild_harm(), (1, 4), ((told[0][0], value, told[0][2]),) + told[1:]), False)
            self.assertIs(paper_holds(mild_harm(), (1, 4), told + ((0, (value,), -1000),)), False)

    def test_bools_in_the_place_of_integers(self):
        harm = Harm(Rota(1, [([0], [0]), ([0], [0])]), 0, 4, 1, 1)
        value = mean_harm(harm)
        told = {entry[:2]: entry[2] for entry in paper(harm, value)}
        low = min(told.values())
        zero = {stand: weight - low for stand, weight in told.items()}
        self.assertTrue(paper_holds(harm, value, tuple((*stand, weight) for stand, weight in zero.items())))
        for stand in zero:
            for made in ((bool(stand[0]), stand[1], zero[stand]), (stand[0], (True,), zero[stand]),
                         (stand[0], stand[1], bool(zero[stand]))):
                rest = tuple((*other, weight) for other, weight in zero.items() if other != stand)
                self.assertIs(paper_holds(harm, value, rest + (made,)), False, made)

    def test_lists_in_the_place_of_tuples(self):
        told = paper(mild_harm(), (1, 4))
        self.assertIs(paper_holds(mild_harm(), (1, 4), list(told)), False)
        for at, (day, missed, weight) in enumerate(told):
            for made in ([day, missed, weight], (day, list(missed), weight)):
                self.assertIs(paper_holds(mild_harm(), (1, 4), told[:at] + (made,) + told[at + 1:]), False)


class Calling(unittest.TestCase):
    def test_parameter_names(self):
        told = paper(value=(1, 4), harm=mild_harm())
        self.assertIs(paper_holds(paper=told, value=(1, 4), harm=mild_harm()), True)

    def test_the_same_call_twice_and_nothing_changes(self):
        harm = mild_harm()
        told = paper(harm, (1, 4))
        others = list(told)
        kept = copy.deepcopy(others)
        self.assertEqual(paper(harm, (1, 3)), paper(harm, (1, 3)))
        self.assertIs(paper_holds(harm, (1, 4), others), False)
        self.assertEqual((paper(harm, (1, 4)), others), (told, kept))
