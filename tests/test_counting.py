"""[13], [14] Counting, held against a trial of all lots of misses, and against sums of binomials."""

import copy
import random
import unittest
from fractions import Fraction
from math import comb, gcd

from turnrota.counting import by_misses, count, count_missed, count_side, lot_at, number_of, share
from turnrota.errors import InvalidMisses, NoFit, NoLot, NoTurning, NoWheel
from turnrota.rotas import Rota
from turnrota.seasons import Season, fits

from tests.samples import DAILY, NEVER, SIX, TOO_FEW, first_rota, first_season, no_wheels, odd_values, raised, within
from tests.trial import trials


def long_season():
    """Six wheels that are due each day of 60, with two looks at each wheel."""
    return Season(SIX, 60, 60, [(5 * at, at % 6, at % 2) for at in range(1, 13)])


def filled(parts, free, budget):
    """How many lots fit by the number of misses: parts (turnings, odd), and so many turnings that are free."""
    numbers = [comb(free, misses) for misses in range(budget + 1)]
    for many, odd in parts:
        ways = [comb(many, misses) if misses % 2 == odd else 0 for misses in range(budget + 1)]
        numbers = [sum(numbers[at] * ways[misses - at] for at in range(misses + 1)) for misses in range(budget + 1)]
    return tuple(numbers)


class AgainstTrials(unittest.TestCase):
    def test_count(self):
        for trial in trials():
            self.assertEqual(count(trial.season), len(trial.lots))

    def test_by_misses(self):
        for trial in trials():
            told = tuple(sum(len(lot) == misses for lot in trial.lots) for misses in range(trial.season.budget + 1))
            self.assertEqual(by_misses(trial.season), told)

    def test_count_missed_and_share(self):
        for trial in trials():
            for pair in trial.due:
                if trial.lots:
                    many = sum(pair in lot for lot in trial.lots)
                    self.assertEqual(count_missed(trial.season, *pair), many)
                    part = Fraction(many, len(trial.lots))
                    self.assertEqual(share(trial.season, *pair), (part.numerator, part.denominator))
                else:
                    self.assertIs(type(raised(count_missed, trial.season, *pair)), NoFit)
                    self.assertIs(type(raised(share, trial.season, *pair)), NoFit)

    def test_count_side(self):
        for trial in trials():
            for day in range(trial.season.days + 1):
                for wheel in range(trial.season.wheels):
                    if trial.lots:
                        up = trial.sides(wheel, day)
                        self.assertEqual(count_side(trial.season, wheel, day), (up.count(0), up.count(1)))
                    else:
                        self.assertIs(type(raised(count_side, trial.season, wheel, day)), NoFit)

    def test_each_lot_by_its_number(self):
        for trial in trials():
            self.assertEqual([lot_at(trial.season, at) for at in range(len(trial.lots))], trial.lots)

    def test_each_number_by_its_lot(self):
        for trial in trials():
            self.assertEqual([number_of(trial.season, lot) for lot in trial.lots], list(range(len(trial.lots))))

    def test_numbers_that_are_none(self):
        for trial in trials():
            for at in (-1, -len(trial.lots), len(trial.lots), len(trial.lots) + 1, 10 ** 18, -(10 ** 18)):
                if at not in range(len(trial.lots)):
                    error = raised(lot_at, trial.season, at)
                    self.assertIs(type(error), NoLot)
                    self.assertEqual(error.at, at)

    def test_lots_that_do_not_fit(self):
        source = random.Random(9)
        for trial in trials():
            for _ in range(5):
                missed = source.sample(trial.season.due, source.randint(0, len(trial.season.due)))
                if tuple(sorted(missed)) in trial.lots:
                    self.assertEqual(trial.lots[number_of(trial.season, missed)], tuple(sorted(missed)))
                else:
                    self.assertIs(type(raised(number_of, trial.season, missed)), NoFit)


class ByHand(unittest.TestCase):
    def test_the_first_season(self):
        season = first_season()
        lots = [lot_at(season, at) for at in range(10)]
        self.assertEqual(lots, [((0, 0),), ((0, 0), (3, 0)), ((0, 0), (4, 0)), ((0, 0), (5, 0)), ((0, 0), (5, 1)),
                                ((1, 0),), ((1, 0), (3, 0)), ((1, 0), (4, 0)), ((1, 0), (5, 0)), ((1, 0), (5, 1))])
        self.assertEqual((share(season, 0, 0), share(season, 1, 1), share(season, 5, 1)), ((1, 2), (0, 1), (1, 5)))

    def test_no_misses_at_all(self):
        season = Season(first_rota(), 6, 0)
        self.assertEqual((count(season), by_misses(season), lot_at(season, 0), number_of(season, [])), (1, (1,), (), 0))
        self.assertEqual((count_side(season, 0, 6), count_missed(season, 0, 0), share(season, 0, 0)), ((0, 1), 0, (0, 1)))

    def test_no_turnings(self):
        season = Season(Rota(2, [((), (1, 0))]), 6, 4)
        self.assertEqual((count(season), by_misses(season), lot_at(season, 0)), (1, (1, 0, 0, 0, 0), ()))
        self.assertEqual(count_side(season, 1, 3), (1, 0))

    def test_a_turning_that_was_missed_surely(self):
        season = Season(DAILY, 3, 3, [(1, 0, 0)])
        self.assertEqual((count_missed(season, 0, 0), share(season, 0, 0)), (4, (1, 1)))

    def test_a_lot_stands_ahead_of_those_that_go_on_with_it(self):
        lots = [(), ((0, 0),), ((0, 0), (1, 0)), ((0, 0), (1, 0), (2, 0)), ((0, 0), (2, 0)), ((1, 0),),
                ((1, 0), (2, 0)), ((2, 0),)]
        self.assertEqual([lot_at(Season(DAILY, 3, 3), at) for at in range(8)], lots)
        self.assertEqual(lots, sorted(lots))


class LongSeasons(unittest.TestCase):
    def test_without_looks(self):
        for budget in (0, 1, 2, 30, 59, 60):
            season = Season(DAILY, 60, budget)
            self.assertEqual(by_misses(season), tuple(comb(60, misses) for misses in range(budget + 1)))
            self.assertEqual(count(season), within(60, budget))
            season = Season(SIX, 60, budget)
            self.assertEqual(by_misses(season), tuple(comb(360, misses) for misses in range(budget + 1)))
            self.assertEqual(count(season), within(360, budget))

    def test_with_looks(self):
        parts, free = [], 0
        for wheel in range(6):
            first, up = 0, 0
            for day, turned, other in long_season().looks:
                if turned == wheel:
                    parts.append((day - first, (day - first + up + other) % 2))
                    first, up = day, other
            free += 60 - first
        for budget in (0, 5, 17, 60):
            season = long_season().but(budget)
            self.assertEqual(by_misses(season), filled(parts, free, budget))
            self.assertEqual(count(season), sum(filled(parts, free, budget)))

    def test_more_budget_than_turnings(self):
        self.assertEqual(by_misses(Season(DAILY, 3, 6)), (1, 3, 3, 1, 0, 0, 0))
        self.assertEqual(by_misses(Season(DAILY, 3, 6, [(3, 0, 0)])), (0, 3, 0, 1, 0, 0, 0))

    def test_a_budget_beyond_all_limits(self):
        season = Season(DAILY, 60, 10 ** 18)
        self.assertEqual((count(season), count_missed(season, 7, 0)), (1 << 60, 1 << 59))
        self.assertEqual(number_of(season, season.due), 60)

    def test_missed_turnings(self):
        season = Season(SIX, 60, 60)
        for day, wheel in ((0, 0), (17, 3), (59, 5)):
            many = within(359, 59)
            self.assertEqual(count_missed(season, day, wheel), many)
            common = gcd(many, count(season))
            self.assertEqual(share(season, day, wheel), (many // common, count(season) // common))

    def test_both_sides(self):
        season = long_season()
        for wheel in range(6):
            for day in (0, 1, 29, 30, 59, 60):
                self.assertEqual(sum(count_side(season, wheel, day)), count(season))
        self.assertEqual(count_side(Season(DAILY, 60, 60), 0, 60), (1 << 59, 1 << 59))
        self.assertEqual(count_side(Season(DAILY, 60, 1), 0, 60), (1, 60))

    def test_lots_by_their_numbers(self):
        source = random.Random(2)
        for season in (long_season(), Season(SIX, 60, 60), Season(DAILY, 60, 60), long_season().but(12)):
            many = count(season)
            numbers = sorted([0, 1, many - 2, many - 1] + [source.randrange(many) for _ in range(4)])
            lots = [lot_at(season, at) for at in numbers]
            self.assertEqual(lots, sorted(lots))
            for at, lot in zip(numbers, lots):
                self.assertTrue(fits(season, lot))
                self.assertEqual(lot, tuple(sorted(set(lot))))
                self.assertEqual(number_of(season, lot), at)
            self.assertEqual(raised(lot_at, season, many).at, many)

    def test_lots_side_by_side(self):
        season = long_season()
        at = count(season) // 3
        lots = [lot_at(season, at + further) for further in range(4)]
        self.assertEqual(lots, sorted(set(lots)))

    def test_lots_of_one_wheel_without_looks(self):
        season = Season(DAILY, 60, 60)
        self.assertEqual(lot_at(season, 60), season.due)
        self.assertEqual(lot_at(season, (1 << 59)), tuple((day, 0) for day in (0, 59)))
        self.assertEqual(lot_at(season, (1 << 60) - 1), ((59, 0),))
        self.assertEqual(number_of(season, [(1, 0)]), (1 << 59) + 1)


class Errors(unittest.TestCase):
    def check(self, kind, work, *told):
        error = raised(work, *told)
        self.assertIs(type(error), kind, (work, told))
        return error

    def test_wheels_that_are_none(self):
        for season in (first_season(), TOO_FEW, NEVER):
            for value in no_wheels(2):
                for work, told in ((count_missed, (0, value)), (count_missed, (None, value)), (share, (0, value)),
                                   (share, (17, value)), (count_side, (value, 0)), (count_side, (value, 6))):
                    self.assertIs(self.check(NoWheel, work, season, *told).value, value)

    def test_seasons_that_no_misses_fit(self):
        for season in (TOO_FEW, NEVER):
            self.assertEqual((count(season), by_misses(season)), (0, (0,) * (season.budget + 1)))
            for wheel in (0, 1):
                self.check(NoFit, count_side, season, wheel, 0)
                for day in [0, 1, 17, -1, *odd_values()]:
                    self.check(NoFit, count_missed, season, day, wheel)
                    self.check(NoFit, share, season, day, wheel)
            for at in (0, -1, 1, 10 ** 18):
                self.assertEqual(self.check(NoLot, lot_at, season, at).at, at)
            for misses in ([], ((0, 0),), season.due):
                self.check(NoFit, number_of, season, misses)

    def test_turnings_that_are_none(self):
        season = first_season()
        for work in (count_missed, share):
            for day in [2, 6, 7, -1, -6, 10 ** 18, *odd_values()]:
                self.assertIs(self.check(NoTurning, work, season, day, 0).day, day)
            for day in [0, 4, 6, *odd_values()]:
                self.assertIs(self.check(NoTurning, work, season, day, 1).day, day)

    def test_misses_that_are_none(self):
        for season in (first_season(), TOO_FEW, NEVER):
            for value in odd_values():
                if not isinstance(value, (list, tuple)):
                    self.assertEqual(self.check(InvalidMisses, number_of, season, value).at, 0)
                self.assertEqual(self.check(InvalidMisses, number_of, season, [(5, 1), value, value]).at, 1)
                self.assertEqual(self.check(InvalidMisses, number_of, season, ((0, value),)).at, 0)
            self.assertEqual(self.check(InvalidMisses, number_of, season, [(0, 0), (5, 1), (0, 0)]).at, 2)
            self.assertEqual(self.check(InvalidMisses, number_of, season, [(0, 0), (6, 0)]).at, 1)

    def test_misses_that_do_not_fit(self):
        season = first_season()
        for misses in ([], [(3, 0)], [(0, 0), (1, 0)], [(0, 0), (3, 0), (4, 0)], [(0, 0), (1, 1)]):
            self.check(NoFit, number_of, season, misses)


class Calling(unittest.TestCase):
    def test_misses_in_any_order(self):
        season = first_season()
        for misses in ([(0, 0), (4, 0)], [(4, 0), (0, 0)], ((4, 0), (0, 0))):
            self.assertEqual(number_of(season, misses), 2)
        season = long_season()
        lot = lot_at(season, 10 ** 40)
        self.assertEqual(number_of(season, lot[::-1]), 10 ** 40)
        self.assertEqual(number_of(season, random.Random(4).sample(lot, len(lot))), 10 ** 40)

    def test_parameter_names(self):
        season = first_season()
        self.assertEqual((count(season=season), by_misses(season=season)), (10, (0, 2, 8)))
        self.assertEqual(count_missed(wheel=1, day=5, season=season), 2)
        self.assertEqual(share(wheel=1, day=5, season=season), (1, 5))
        self.assertEqual(count_side(day=1, wheel=0, season=season), (5, 5))
        self.assertEqual(count_side(day=0, wheel=1, season=season), (10, 0))
        self.assertEqual(lot_at(at=5, season=season), ((1, 0),))
        self.assertEqual(number_of(misses=[(1, 0)], season=season), 5)

    def test_kinds_of_results(self):
        season = first_season()
        numbers = [count(season), count_missed(season, 0, 0), number_of(season, [(0, 0)]), *by_misses(season),
                   *share(season, 0, 0), *count_side(season, 0, 6)]
        self.assertEqual({type(number) for number in numbers}, {int})
        results = [by_misses(season), share(season, 0, 0), count_side(season, 0, 6), lot_at(season, 3),
                   *lot_at(season, 3)]
        self.assertEqual({type(told) for told in results}, {tuple})

    def test_the_same_call_twice_and_nothing_changes(self):
        season = first_season()
        misses = [(4, 0), (0, 0)]
        kept = copy.deepcopy((season.days, season.budget, season.looks, season.due))
        calls = [(count, ()), (by_misses, ()), (count_missed, (0, 0)), (share, (5, 1)), (count_side, (0, 6)),
                 (lot_at, (7,)), (number_of, (misses,))]
        first = [work(season, *told) for work, told in calls]
        self.assertEqual([work(season, *told) for work, told in reversed(calls)], first[::-1])
        self.assertEqual((season.days, season.budget, season.looks, season.due), kept)
        self.assertEqual(misses, [(4, 0), (0, 0)])
