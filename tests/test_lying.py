"""[15], [16] Lying, held against a trial of all lots of misses, and gaps, held against going day by day."""

import copy
import random
import unittest

from turnrota.deciding import possible
from turnrota.errors import NoFit, NoWheel
from turnrota.lying import gap, longest_lying, lying_misses, surely_lain, worst_gap
from turnrota.rotas import Rota
from turnrota.seasons import Season, fits, lain, sides
from turnrota.ways import due_day

from tests.samples import (DAILY, NEVER, TOO_FEW, first_rota, first_season, large_rotas, no_wheels, raised,
                           small_rotas, walk)
from tests.trial import course, trials

FAR = 10 ** 9


def many_seasons():
    """Seasons of many days with looks, always the same ones."""
    source = random.Random(31)
    for rota in [*large_rotas()] * 5:
        days = source.randint(10, 40)
        missed = [pair for pair in Season(rota, days, 0).due if source.random() < 0.15]
        looks = [(day, wheel, sides(Season(rota, days, 0), missed, day)[wheel])
                 for day, wheel in [(source.randint(0, days), source.randrange(rota.places)) for _ in range(8)]]
        yield Season(rota, days, source.randint(2, 12), looks)


class AgainstTrials(unittest.TestCase):
    def test_longest_lying(self):
        for trial in trials():
            for wheel in range(trial.season.wheels):
                if trial.lots:
                    longest = max(max(trial.lain(wheel, day)) for day in range(trial.season.days + 1))
                    self.assertEqual(longest_lying(trial.season, wheel), longest)
                else:
                    self.assertIs(type(raised(longest_lying, trial.season, wheel)), NoFit)

    def test_lying_misses(self):
        for trial in trials():
            for wheel in range(trial.season.wheels):
                if trial.lots:
                    day, misses = lying_misses(trial.season, wheel)
                    self.assertIn(misses, trial.courses)
                    self.assertIn(misses, trial.lots)
                    longest = max(max(trial.lain(wheel, on)) for on in range(trial.season.days + 1))
                    self.assertEqual(trial.courses[misses][day][1][wheel], longest)
                else:
                    self.assertIs(type(raised(lying_misses, trial.season, wheel)), NoFit)

    def test_surely_lain(self):
        for trial in trials():
            for wheel in range(trial.season.wheels):
                for day in range(trial.season.days + 1):
                    if trial.lots:
                        self.assertEqual(surely_lain(trial.season, wheel, day), min(trial.lain(wheel, day)))
                    else:
                        self.assertIs(type(raised(surely_lain, trial.season, wheel, day)), NoFit)


class ByHand(unittest.TestCase):
    def test_the_first_season(self):
        season = first_season()
        self.assertEqual((longest_lying(season, 0), longest_lying(season, 1)), (4, 3))
        self.assertEqual([surely_lain(season, 0, day) for day in range(7)], [0, 1, 1, 2, 1, 1, 1])
        self.assertEqual([surely_lain(season, 1, day) for day in range(7)], [0, 1, 1, 1, 1, 2, 1])

    def test_a_wheel_that_is_never_due_lies_for_the_whole_season(self):
        season = Season(Rota(2, [([0], (0, 1))]), 7, 0)
        self.assertEqual((longest_lying(season, 1), lying_misses(season, 1)), (7, (7, ())))
        self.assertEqual([surely_lain(season, 1, day) for day in range(8)], list(range(8)))
        self.assertEqual((longest_lying(season, 0), surely_lain(season, 0, 7)), (1, 1))

    def test_a_wheel_that_was_not_turned_yet(self):
        season = Season(DAILY, 5, 3)
        self.assertEqual(longest_lying(season, 0), 4)
        self.assertEqual(longest_lying(season.but(4), 0), 5)
        self.assertEqual(longest_lying(season.but(5), 0), 5)
        self.assertEqual(lying_misses(season.but(5), 0), (5, ((0, 0), (1, 0), (2, 0), (3, 0), (4, 0))))

    def test_looks_that_bar_a_long_rest(self):
        season = Season(DAILY, 6, 6, [(3, 0, 1), (4, 0, 0)])
        self.assertEqual((longest_lying(season, 0), surely_lain(season, 0, 4)), (3, 1))
        self.assertEqual(longest_lying(Season(DAILY, 6, 6, [(day, 0, day % 2) for day in range(7)]), 0), 1)

    def test_looks_that_tell_of_a_long_rest(self):
        season = Season(DAILY, 6, 4, [(day, 0, 1) for day in range(1, 6)])
        self.assertEqual((longest_lying(season, 0), lying_misses(season, 0)),
                         (5, (5, ((1, 0), (2, 0), (3, 0), (4, 0)))))
        self.assertEqual([surely_lain(season, 0, day) for day in range(7)], [0, 1, 2, 3, 4, 5, 1])

    def test_misses_of_other_wheels_are_spent_too(self):
        rota = Rota(2, [([0, 1], (0, 1))])
        season = Season(rota, 5, 3, [(5, 1, 0)])
        self.assertEqual((longest_lying(season, 0), longest_lying(season, 1)), (3, 4))
        day, misses = lying_misses(season, 0)
        self.assertTrue(fits(season, misses))
        self.assertEqual(lain(season, misses, day)[0], 3)

    def test_a_rest_ahead_of_a_stretch_that_owes_a_miss(self):
        # The turning of day 5 was made; of the two of the days 6 and 7 one was missed.
        rota = Rota(1, [([], [0])] * 5 + [([0], [0])] * 3)
        season = Season(rota, 8, 1, [(5, 0, 0), (6, 0, 1), (8, 0, 0)])
        self.assertEqual(longest_lying(season, 0), 5)
        day, misses = lying_misses(season, 0)
        self.assertEqual(day, 5)
        self.assertIn(misses, (((6, 0),), ((7, 0),)))

    def test_a_rest_between_stretches_that_owe_a_miss(self):
        # One of the first two turnings was missed, those of the days 2 and 3 were made, one of the last two was not.
        rota = Rota(1, [([0], [0])] * 3 + [([], [0])] * 6 + [([0], [0])] * 3)
        season = Season(rota, 12, 2, [(2, 0, 1), (3, 0, 0), (10, 0, 1), (12, 0, 0)])
        self.assertEqual(longest_lying(season, 0), 7)
        day, misses = lying_misses(season, 0)
        self.assertEqual(day, 9)
        self.assertTrue(fits(season, misses))
        self.assertEqual(lain(season, misses, 9), (7,))

    def test_a_season_of_one_day(self):
        for rota in (DAILY, Rota(1, [((), (0,))])):
            season = Season(rota, 1, 0)
            self.assertEqual((longest_lying(season, 0), lying_misses(season, 0)), (1, (1, ())))
            self.assertEqual([surely_lain(season, 0, day) for day in (0, 1)], [0, 1])


class LongSeasons(unittest.TestCase):
    def test_the_misses_show_the_longest_whatever_was_seen(self):
        for season in many_seasons():
            for wheel in range(season.wheels):
                if raised(longest_lying, season, wheel) is None:
                    day, misses = lying_misses(season, wheel)
                    self.assertTrue(fits(season, misses))
                    self.assertEqual(misses, tuple(sorted(set(misses))))
                    self.assertEqual(lain(season, misses, day)[wheel], longest_lying(season, wheel))

    def test_no_further_looks_can_show_a_longer_one(self):
        for season in list(many_seasons())[::4]:
            if raised(longest_lying, season, 0) is None:
                days = longest_lying(season, 0) + 1
                for first in range(season.days - days + 1):
                    for up in (0, 1) if first else (0,):
                        shown = [(day, 0, up) for day in range(first, first + days + 1)]
                        begun = (first - 1, 0, 1 - up)
                        self.assertFalse(possible(season.seen(shown + [begun] if first else shown)))

    def test_the_misses_show_the_longest(self):
        for rota in large_rotas():
            for looks in ([], [(20, 0, 0), (41, 0, 0), (60, 0, 1)]):
                season = Season(rota, 60, 60, looks)
                if raised(longest_lying, season, 0) is None:
                    for wheel in range(rota.places):
                        day, misses = lying_misses(season, wheel)
                        self.assertTrue(fits(season, misses))
                        self.assertEqual(misses, tuple(sorted(set(misses))))
                        told = course(rota, 60, misses)[day][1][wheel]
                        self.assertEqual((told, lain(season, misses, day)[wheel]), (longest_lying(season, wheel),) * 2)

    def test_daily_turnings(self):
        for budget in (0, 1, 30, 58):
            self.assertEqual(longest_lying(Season(DAILY, 60, budget), 0), budget + 1)
        for budget in (59, 60, FAR):
            self.assertEqual(longest_lying(Season(DAILY, 60, budget), 0), 60)
        self.assertEqual(surely_lain(Season(DAILY, 60, 60), 0, 60), 1)


class Gaps(unittest.TestCase):
    def walked(self, rota, wheel, misses):
        """The greatest gap within many days, by going day by day."""
        many = (misses + 3) * 6 * len(rota)
        days = [day for day, (_, due) in enumerate(walk(rota, many)) if wheel in due]
        return max((days[at + misses + 1] - days[at] for at in range(len(days) - misses - 1)), default=None)

    def test_day_by_day(self):
        for rota in [*small_rotas(), *large_rotas()]:
            for misses in (0, 1, 2, 5):
                gaps = [self.walked(rota, wheel, misses) for wheel in range(rota.places)]
                self.assertEqual([gap(rota, wheel, misses) for wheel in range(rota.places)], gaps)
                self.assertEqual(worst_gap(rota, misses), None if None in gaps else max(gaps))

    def test_far_ones(self):
        # In 60 passes each wheel goes through whole rounds of its own.
        for rota in large_rotas():
            for wheel in range(rota.places):
                many = sum(wheel in due for _, due in walk(rota, 60 * len(rota)))
                for misses in (0, 1, 2, 3) if many else ():
                    far = FAR // many * many + misses - many
                    self.assertEqual(gap(rota, wheel, far),
                                     gap(rota, wheel, misses) + (FAR // many - 1) * 60 * len(rota))

    def test_at_the_limit(self):
        self.assertEqual(gap(DAILY, 0, FAR), FAR + 1)
        self.assertEqual([gap(first_rota(), wheel, FAR) for wheel in (0, 1)], [1333333335, 1333333335])
        rota = Rota(6, [([0], (1, 2, 3, 4, 5, 0))] + [([], (0, 1, 2, 3, 4, 5))] * 6)
        self.assertEqual([gap(rota, wheel, FAR) for wheel in range(6)], [42 * (FAR + 1)] * 6)
        self.assertEqual(worst_gap(rota, FAR), 42 * (FAR + 1))
        self.assertEqual(gap(DAILY, 0, 10 ** 18), 10 ** 18 + 1)

    def test_wheels_that_are_never_due(self):
        rota = Rota(2, [([0], (0, 1))])
        for misses in (0, 1, FAR):
            self.assertEqual(gap(rota, 0, misses), misses + 1)
            self.assertIsNone(gap(rota, 1, misses))
            self.assertIsNone(worst_gap(rota, misses))
            self.assertIsNone(worst_gap(Rota(1, [((), (0,))]), misses))

    def test_the_greatest_gap_stands_around_the_end_of_a_round(self):
        rota = Rota(1, [([], [0]), ([], [0]), ([0], [0]), ([0], [0]), ([], [0])])
        self.assertEqual([gap(rota, 0, misses) for misses in range(4)], [4, 5, 9, 10])

    def test_more_misses_make_it_longer(self):
        for rota in large_rotas():
            for wheel in range(rota.places):
                if due_day(rota, wheel, 0) is not None:
                    gaps = [gap(rota, wheel, misses) for misses in range(50)]
                    self.assertEqual(gaps, sorted(set(gaps)))


class Errors(unittest.TestCase):
    def test_wheels_that_are_none(self):
        for season in (first_season(), TOO_FEW, NEVER):
            for value in no_wheels(2):
                for work, told in ((longest_lying, ()), (lying_misses, ()), (surely_lain, (0,)), (surely_lain, (6,))):
                    error = raised(work, season, value, *told)
                    self.assertIs(type(error), NoWheel, (work, value))
                    self.assertIs(error.value, value)

    def test_wheels_that_are_none_of_gaps(self):
        for rota in (first_rota(), Rota(2, [((), (0, 1))])):
            for value in no_wheels(2):
                for misses in (0, 1, FAR):
                    error = raised(gap, rota, value, misses)
                    self.assertIs(type(error), NoWheel, value)
                    self.assertIs(error.value, value)

    def test_seasons_that_no_misses_fit(self):
        for season in (TOO_FEW, NEVER):
            for wheel in (0, 1):
                for work, told in ((longest_lying, ()), (lying_misses, ()), (surely_lain, (0,)), (surely_lain, (6,))):
                    self.assertIs(type(raised(work, season, wheel, *told)), NoFit)


class Calling(unittest.TestCase):
    def test_parameter_names(self):
        season = first_season()
        self.assertEqual(longest_lying(wheel=1, season=season), 3)
        self.assertEqual(lying_misses(wheel=1, season=season), lying_misses(season, 1))
        self.assertEqual(surely_lain(day=5, wheel=1, season=season), 2)
        self.assertEqual(gap(misses=3, wheel=0, rota=first_rota()), 6)
        self.assertEqual(worst_gap(misses=3, rota=first_rota()), 6)

    def test_kinds_of_results(self):
        season = first_season()
        numbers = (longest_lying(season, 0), lying_misses(season, 0)[0], surely_lain(season, 0, 6),
                   gap(first_rota(), 0, 3), worst_gap(first_rota(), 3))
        self.assertEqual({type(number) for number in numbers}, {int})
        told = lying_misses(season, 0)
        self.assertEqual({type(part) for part in (told, told[1], *told[1])}, {tuple})

    def test_the_same_call_twice_and_nothing_changes(self):
        season, rota = first_season(), first_rota()
        kept = copy.deepcopy((season.days, season.budget, season.looks, season.due, rota.rows))
        calls = [(longest_lying, (season, 0)), (lying_misses, (season, 0)), (surely_lain, (season, 1, 5)),
                 (gap, (rota, 0, 7)), (worst_gap, (rota, FAR))]
        first = [work(*told) for work, told in calls]
        self.assertEqual([work(*told) for work, told in reversed(calls)], first[::-1])
        self.assertEqual((season.days, season.budget, season.looks, season.due, rota.rows), kept)
