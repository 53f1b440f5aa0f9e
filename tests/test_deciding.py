"""[10], [11], [12] Deciding, held against a trial of all lots of misses."""

import copy
import unittest

from turnrota.deciding import least, open_wheels, possible, side, slack, stretches, surely_missed, turning
from turnrota.errors import NoFit, NoTurning, NoWheel
from turnrota.rotas import Rota
from turnrota.seasons import Season, fits

from tests.samples import DAILY, NEVER, TOO_FEW, first_rota, first_season, large_rotas, no_wheels, odd_values, raised
from tests.trial import trials


def sure(values):
    """The value that all of these are, or None."""
    return values[0] if len(set(values)) == 1 else None


class AgainstTrials(unittest.TestCase):
    def test_possible_and_least(self):
        for trial in trials():
            self.assertIs(possible(trial.season), bool(trial.lots))
            self.assertEqual(least(trial.season), min(map(len, trial.free), default=None))

    def test_slack(self):
        for trial in trials():
            if trial.lots:
                self.assertEqual(slack(trial.season), trial.season.budget - min(map(len, trial.lots)))
            else:
                self.assertIs(type(raised(slack, trial.season)), NoFit)

    def test_sides(self):
        for trial in trials():
            for day in range(trial.season.days + 1):
                for wheel in range(trial.season.wheels):
                    if trial.lots:
                        self.assertEqual(side(trial.season, wheel, day), sure(trial.sides(wheel, day)))
                    else:
                        self.assertIs(type(raised(side, trial.season, wheel, day)), NoFit)

    def test_open_wheels(self):
        for trial in trials():
            for day in range(trial.season.days + 1):
                if trial.lots:
                    told = tuple(wheel for wheel in range(trial.season.wheels)
                                 if sure(trial.sides(wheel, day)) is None)
                    self.assertEqual(open_wheels(trial.season, day), told)
                else:
                    self.assertIs(type(raised(open_wheels, trial.season, day)), NoFit)

    def test_turnings(self):
        seen = set()
        for trial in trials():
            for pair in trial.due:
                if trial.lots:
                    missed = {pair in lot for lot in trial.lots}
                    told = "open" if len(missed) == 2 else "missed" if True in missed else "made"
                    self.assertEqual(turning(trial.season, *pair), told)
                    seen.add(told)
                else:
                    self.assertIs(type(raised(turning, trial.season, *pair)), NoFit)
        self.assertEqual(seen, {"open", "missed", "made"})

    def test_surely_missed(self):
        for trial in trials():
            if trial.lots:
                told = tuple(pair for pair in trial.due if all(pair in lot for lot in trial.lots))
                self.assertEqual(surely_missed(trial.season), told)
            else:
                self.assertIs(type(raised(surely_missed, trial.season)), NoFit)

    def test_stretches_say_how_many_were_missed(self):
        for trial in trials():
            for wheel in range(trial.season.wheels):
                for first, last, odd in stretches(trial.season, wheel):
                    for lot in trial.free:
                        many = len([day for day, turned in lot if turned == wheel and first <= day < last])
                        self.assertTrue(odd is None or odd == (many % 2 == 1))


class ByHand(unittest.TestCase):
    def test_the_first_season(self):
        season = first_season()
        self.assertEqual([side(season, 0, day) for day in range(7)], [0, None, 1, 1, None, None, None])
        self.assertEqual([side(season, 1, day) for day in range(7)], [0, 0, 1, 0, 1, 1, None])
        self.assertEqual([turning(season, day, wheel) for day, wheel in season.due],
                         ["open", "open", "made", "made", "open", "made", "open", "open", "open"])
        self.assertEqual([open_wheels(season, day) for day in range(7)],
                         [(), (0,), (), (), (0,), (0,), (0, 1)])
        self.assertEqual((surely_missed(season), slack(season), possible(season)), ((), 1, True))

    def test_amid_an_even_stretch_two_misses_are_asked_for(self):
        for budget, told in ((0, 1), (1, 1), (2, None), (3, None)):
            self.assertEqual(side(Season(DAILY, 6, budget, [(6, 0, 0)]), 0, 3), told)
            self.assertEqual(turning(Season(DAILY, 6, budget, [(6, 0, 0)]), 3, 0), "open" if budget > 1 else "made")

    def test_a_single_turning_of_an_even_stretch_was_made(self):
        season = Season(DAILY, 6, 60, [(1, 0, 1), (2, 0, 0), (6, 0, 0)])
        self.assertEqual([turning(season, day, 0) for day in range(6)], ["made", "made"] + ["open"] * 4)

    def test_a_single_turning_of_an_odd_stretch_was_missed(self):
        season = Season(DAILY, 6, 60, [(1, 0, 0), (2, 0, 0), (6, 0, 1)])
        self.assertEqual(surely_missed(season), ((0, 0), (1, 0)))
        self.assertEqual([turning(season, day, 0) for day in range(6)], ["missed"] * 2 + ["open"] * 4)

    def test_in_the_open_stretch_a_single_miss_is_enough(self):
        season = Season(DAILY, 4, 1, [(2, 0, 0)])
        self.assertEqual([side(season, 0, day) for day in range(5)], [0, 1, 0, None, None])
        self.assertEqual([side(season.but(0), 0, day) for day in range(5)], [0, 1, 0, 1, 0])

    def test_what_is_spent_in_one_stretch_is_missing_in_another(self):
        season = Season(DAILY, 6, 1, [(3, 0, 0)])
        self.assertEqual([turning(season, day, 0) for day in range(6)], ["open"] * 3 + ["made"] * 3)
        self.assertEqual([turning(season.but(2), day, 0) for day in range(6)], ["open"] * 6)

    def test_least_does_not_heed_the_budget(self):
        for budget in (0, 1, 2, 60):
            self.assertEqual(least(first_season().but(budget)), 1)
            self.assertEqual(least(NEVER.but(budget)), None)
        self.assertEqual(least(Season(DAILY, 60, 0, [(day, 0, 0) for day in range(61)])), 60)

    def test_wheels_that_are_never_due(self):
        season = Season(Rota(2, [((), (1, 0))]), 5, 3)
        self.assertEqual([side(season, wheel, day) for wheel in (0, 1) for day in range(6)], [0] * 12)
        self.assertEqual((open_wheels(season, 5), surely_missed(season), slack(season)), ((), (), 3))
        self.assertEqual(least(season.seen([(3, 1, 1)])), None)
        self.assertEqual(least(season.seen([(3, 1, 0)])), 0)

    def test_a_look_on_day_0(self):
        self.assertEqual(least(Season(DAILY, 3, 3, [(0, 0, 0)])), 0)
        self.assertEqual(least(Season(DAILY, 3, 3, [(0, 0, 1)])), None)

    def test_long_seasons(self):
        for rota in large_rotas():
            looks = [(5 * at, at % rota.places, 0) for at in range(1, 13)]
            season = Season(rota, 60, 60, looks)
            need = least(season)
            if need is None:
                self.assertFalse(possible(season))
                continue
            self.assertTrue(possible(season.but(need)))
            self.assertFalse(need and possible(season.but(need - 1)))
            self.assertEqual(slack(season), 60 - need)
            self.assertTrue(set(surely_missed(season)) <= set(season.due))
            told = {pair: turning(season, *pair) for pair in season.due}
            self.assertEqual(surely_missed(season), tuple(pair for pair in season.due if told[pair] == "missed"))


class Stretches(unittest.TestCase):
    def test_without_looks(self):
        self.assertEqual(stretches(Season(DAILY, 5, 0), 0), ((0, 5, None),))
        self.assertEqual(stretches(Season(Rota(2, [((), (1, 0))]), 5, 0), 1), ((0, 5, None),))

    def test_looks_at_other_wheels_do_not_matter(self):
        season = Season(first_rota(), 6, 2, [(2, 0, 1), (3, 0, 0), (4, 1, 1)])
        self.assertEqual(stretches(season, 1), ((0, 4, False), (4, 6, None)))
        self.assertEqual(stretches(season, 0), ((0, 2, True), (2, 3, True), (3, 6, None)))

    def test_a_look_on_day_0(self):
        self.assertEqual(stretches(Season(DAILY, 5, 0, [(0, 0, 0)]), 0), ((0, 0, False), (0, 5, None)))
        self.assertEqual(stretches(Season(DAILY, 5, 0, [(0, 0, 1)]), 0), ((0, 0, True), (0, 5, None)))

    def test_a_look_behind_the_last_day(self):
        self.assertEqual(stretches(Season(DAILY, 5, 0, [(5, 0, 1)]), 0), ((0, 5, False), (5, 5, None)))
        self.assertEqual(stretches(Season(DAILY, 5, 0, [(5, 0, 0)]), 0), ((0, 5, True), (5, 5, None)))

    def test_looks_on_days_side_by_side(self):
        looks = [(1, 0, 1), (2, 0, 1), (3, 0, 0)]
        told = ((0, 1, False), (1, 2, True), (2, 3, False), (3, 5, None))
        self.assertEqual(stretches(Season(DAILY, 5, 0, looks), 0), told)

    def test_two_looks_that_gainsay(self):
        season = Season(DAILY, 5, 0, [(3, 0, 1), (3, 0, 0)])
        self.assertEqual(stretches(season, 0), ((0, 3, True), (3, 3, True), (3, 5, None)))
        season = season.seen([(1, 0, 1), (5, 0, 1)])
        told = ((0, 1, False), (1, 3, True), (3, 3, True), (3, 5, False), (5, 5, None))
        self.assertEqual(stretches(season, 0), told)

    def test_two_looks_that_gainsay_on_day_0(self):
        season = Season(DAILY, 5, 0, [(0, 0, 1), (0, 0, 0), (4, 0, 1)])
        self.assertEqual(stretches(season, 0), ((0, 0, False), (0, 0, True), (0, 4, False), (4, 5, None)))

    def test_two_looks_that_gainsay_behind_the_last_day(self):
        season = Season(DAILY, 5, 0, [(5, 0, 1), (5, 0, 0)])
        self.assertEqual(stretches(season, 0), ((0, 5, True), (5, 5, True), (5, 5, None)))

    def test_it_does_not_matter_whether_misses_fit(self):
        self.assertEqual(stretches(TOO_FEW, 0), ((0, 2, True), (2, 6, None)))
        self.assertEqual(stretches(NEVER, 0), ((0, 2, False), (2, 2, True), (2, 6, None)))
        for budget in (0, 1, 60):
            self.assertEqual(stretches(first_season().but(budget), 1), ((0, 4, False), (4, 6, None)))


class Errors(unittest.TestCase):
    def check(self, kind, work, *told):
        error = raised(work, *told)
        self.assertIs(type(error), kind, (work, told))
        return error

    def test_wheels_that_are_none(self):
        for season in (first_season(), TOO_FEW, NEVER):
            for value in no_wheels(2):
                for work, told in ((side, (value, 6)), (side, (value, 0)), (stretches, (value,)),
                                   (turning, (0, value)), (turning, (17, value)), (turning, (None, value))):
                    self.assertIs(self.check(NoWheel, work, season, *told).value, value)

    def test_seasons_that_no_misses_fit(self):
        for season in (TOO_FEW, NEVER):
            self.assertIs(possible(season), False)
            for wheel in (0, 1):
                self.check(NoFit, side, season, wheel, 0)
                self.check(NoFit, side, season, wheel, 6)
                for day in [0, 1, 17, -1, *odd_values()]:
                    self.check(NoFit, turning, season, day, wheel)
            self.check(NoFit, open_wheels, season, 0)
            self.check(NoFit, open_wheels, season, 6)
            self.check(NoFit, surely_missed, season)
            self.check(NoFit, slack, season)
        self.assertEqual((least(TOO_FEW), least(NEVER)), (1, None))

    def test_turnings_that_are_none(self):
        season = first_season()
        for day in [2, 6, 7, -1, -6, 10 ** 18, *odd_values()]:
            self.assertIs(self.check(NoTurning, turning, season, day, 0).day, day)
        for day in [0, 4, 6, -1, *odd_values()]:
            self.assertIs(self.check(NoTurning, turning, season, day, 1).day, day)
        for day, wheel in season.due:
            self.assertIn(turning(season, day, wheel), ("made", "missed", "open"))

    def test_bools_are_no_days_though_equal_to_one(self):
        season = Season(DAILY, 3, 0)
        self.assertEqual([turning(season, day, 0) for day in (0, 1)], ["made", "made"])
        for day in (False, True):
            self.assertIs(self.check(NoTurning, turning, season, day, 0).day, day)


class Calling(unittest.TestCase):
    def test_parameter_names(self):
        season = first_season()
        self.assertEqual(side(day=6, wheel=0, season=season), side(season, 0, 6))
        self.assertEqual(side(day=2, wheel=1, season=season), 1)
        self.assertEqual(turning(wheel=1, day=2, season=season), "made")
        self.assertEqual(open_wheels(day=4, season=season), (0,))
        self.assertEqual(stretches(wheel=1, season=season), stretches(season, 1))
        self.assertEqual((possible(season=season), least(season=season), slack(season=season)), (True, 1, 1))
        self.assertEqual(surely_missed(season=season), ())

    def test_kinds_of_results(self):
        season = first_season()
        self.assertIs(type(possible(season)), bool)
        self.assertEqual([type(told) for told in (least(season), slack(season), side(season, 0, 2))], [int] * 3)
        self.assertEqual([type(told) for told in (open_wheels(season, 6), surely_missed(season))], [tuple] * 2)
        self.assertEqual({type(part) for part in stretches(season, 0)}, {tuple})
        self.assertEqual([type(odd) for _, _, odd in stretches(season, 0)], [bool, type(None)])

    def test_the_same_call_twice_and_nothing_changes(self):
        season = first_season()
        kept = copy.deepcopy((season.days, season.budget, season.looks, season.due))
        calls = [(possible, ()), (least, ()), (slack, ()), (surely_missed, ()), (stretches, (0,)),
                 (open_wheels, (6,)), (side, (0, 6)), (side, (1, 5)), (turning, (0, 0)), (turning, (2, 1))]
        first = [work(season, *told) for work, told in calls]
        self.assertEqual([work(season, *told) for work, told in reversed(calls)], first[::-1])
        self.assertEqual((season.days, season.budget, season.looks, season.due), kept)

    def test_what_fits_is_possible(self):
        for trial in trials():
            for lot in trial.lots[:3]:
                self.assertTrue(fits(trial.season, lot) and possible(trial.season))
