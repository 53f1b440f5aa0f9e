"""[19], [20] Further looks, held against a trial of all lots of misses."""

import copy
import unittest

from turnrota.asking import best_looks, left_by, results, settles
from turnrota.deciding import side
from turnrota.errors import NoFit, NoWheel
from turnrota.rotas import Rota
from turnrota.seasons import Season

from tests.samples import DAILY, NEVER, SIX, TOO_FEW, first_rota, first_season, no_wheels, odd_values, raised, within
from tests.trial import trials


class AgainstTrials(unittest.TestCase):
    def points(self, trial):
        return [(wheel, day) for wheel in range(trial.season.wheels) for day in range(trial.season.days + 1)]

    def test_results(self):
        for trial in trials():
            for wheel, day in self.points(trial):
                if trial.lots:
                    self.assertEqual(results(trial.season, wheel, day), tuple(sorted(set(trial.sides(wheel, day)))))
                else:
                    self.assertIs(type(raised(results, trial.season, wheel, day)), NoFit)

    def test_left_by(self):
        for trial in trials():
            for wheel, day in self.points(trial):
                if trial.lots:
                    up = trial.sides(wheel, day)
                    self.assertEqual(left_by(trial.season, wheel, day), max(up.count(0), up.count(1)))
                else:
                    self.assertIs(type(raised(left_by, trial.season, wheel, day)), NoFit)

    def test_best_looks(self):
        many_told = set()
        for trial in trials():
            for day in range(trial.season.days + 1):
                if trial.lots:
                    ups = [trial.sides(wheel, day) for wheel in range(trial.season.wheels)]
                    left = [max(up.count(0), up.count(1)) for up in ups]
                    told = tuple(wheel for wheel, many in enumerate(left) if many == min(left))
                    self.assertEqual(best_looks(trial.season, day), told)
                    many_told.add(len(told))
                else:
                    self.assertIs(type(raised(best_looks, trial.season, day)), NoFit)
        self.assertEqual(many_told, {1, 2, 3})

    def test_settles(self):
        seen = set()
        for trial in trials()[::3]:
            points = self.points(trial)
            ups = {point: trial.sides(*point) for point in points}
            for wheel, day in points:
                for other, then in points:
                    if trial.lots:
                        shown = {}
                        for up, told in zip(ups[wheel, day], ups[other, then]):
                            shown.setdefault(up, set()).add(told)
                        held = all(len(told) == 1 for told in shown.values())
                        self.assertIs(settles(trial.season, wheel, day, other, then), held)
                        seen.add((held, wheel == other, len(shown)))
                    else:
                        self.assertIs(type(raised(settles, trial.season, wheel, day, other, then)), NoFit)
        self.assertEqual(len(seen), 8)


class ByHand(unittest.TestCase):
    def test_the_first_season(self):
        season = first_season()
        self.assertEqual([results(season, 0, day) for day in range(7)],
                         [(0,), (0, 1), (1,), (1,), (0, 1), (0, 1), (0, 1)])
        self.assertEqual([left_by(season, 0, day) for day in range(7)], [10, 5, 10, 10, 8, 6, 6])
        self.assertEqual([best_looks(season, day) for day in range(7)],
                         [(0, 1), (0,), (0, 1), (0, 1), (0,), (0,), (0,)])

    def test_a_look_settles_its_own_wheel_on_its_day(self):
        for day in range(7):
            for wheel in (0, 1):
                self.assertIs(settles(first_season(), wheel, day, wheel, day), True)

    def test_a_look_at_one_wheel_leaves_the_other_one_open(self):
        # If the look shows that wheel 0 has the one miss, wheel 1 has none; but it may show that it has not.
        season = Season(Rota(2, [([0, 1], (0, 1))]), 1, 1)
        self.assertIs(side(season.seen([(1, 0, 0)]), 1, 1) is not None, True)
        self.assertIs(settles(season, 0, 1, 1, 1), False)
        self.assertIs(settles(season.but(0), 0, 1, 1, 1), True)

    def test_a_look_settles_other_days_of_its_wheel(self):
        season = Season(first_rota(), 8, 8)
        self.assertIs(side(season, 0, 2), None)
        self.assertIs(settles(season, 0, 3, 0, 2), True)
        self.assertIs(settles(season, 0, 2, 0, 3), True)
        self.assertIs(settles(season, 0, 4, 0, 3), False)

    def test_what_was_sure_already_is_settled(self):
        season = first_season()
        self.assertIs(settles(season, 1, 6, 0, 2), True)
        self.assertIs(settles(season, 1, 6, 0, 6), False)

    def test_looks_on_day_0_show_side_0(self):
        for season in (first_season(), Season(DAILY, 4, 4), Season(SIX, 60, 60)):
            for wheel in range(season.wheels):
                self.assertEqual(results(season, wheel, 0), (0,))
            self.assertEqual(best_looks(season, 0), tuple(range(season.wheels)))

    def test_looks_behind_the_last_day(self):
        season = Season(DAILY, 4, 1)
        self.assertEqual((results(season, 0, 4), left_by(season, 0, 4)), ((0, 1), 4))
        self.assertIs(settles(season, 0, 4, 0, 3), False)
        self.assertIs(settles(season, 0, 1, 0, 1), True)

    def test_wheels_that_are_never_due(self):
        season = Season(Rota(2, [([0], (0, 1))]), 5, 3)
        self.assertEqual((results(season, 1, 5), best_looks(season, 5)), ((0,), (0,)))
        self.assertIs(settles(season, 0, 2, 1, 5), True)


class LongSeasons(unittest.TestCase):
    def test_great_counts(self):
        season = Season(SIX, 60, 60)
        for day in (1, 30, 60):
            left = [left_by(season, wheel, day) for wheel in range(6)]
            self.assertEqual(best_looks(season, day), tuple(wheel for wheel in range(6) if left[wheel] == min(left)))
            self.assertEqual(results(season, 5, day), (0, 1))
            self.assertIs(settles(season, 5, day, 5, day), True)
            self.assertIs(settles(season, 5, day, 0, day), False)
        self.assertEqual(left_by(season, 0, 0), within(360, 60))
        # Made on the first day, which is the greater part: 60 misses among the others.
        self.assertEqual(left_by(season, 3, 1), within(359, 60))
        self.assertEqual(left_by(Season(DAILY, 60, 60), 0, 60), 1 << 59)

    def test_with_looks(self):
        season = Season(SIX, 60, 60, [(5 * at, at % 6, at % 2) for at in range(1, 13)])
        for day in (0, 1, 29, 60):
            self.assertEqual(best_looks(season, day), best_looks(season, day))
            for wheel in range(6):
                self.assertIn(len(results(season, wheel, day)), (1, 2))


class Errors(unittest.TestCase):
    def check(self, kind, work, *told):
        error = raised(work, *told)
        self.assertIs(type(error), kind, (work, told))
        return error

    def test_wheels_that_are_none(self):
        for season in (first_season(), TOO_FEW, NEVER):
            for value in no_wheels(2):
                for work, told in ((results, (value, 0)), (results, (value, 6)), (left_by, (value, 6)),
                                   (settles, (value, 6, 0, 5)), (settles, (0, 6, value, 5))):
                    self.assertIs(self.check(NoWheel, work, season, *told).value, value)

    def test_the_first_wheel_that_is_none(self):
        for season in (first_season(), TOO_FEW, NEVER):
            for value in no_wheels(2):
                for other in no_wheels(2)[::5]:
                    self.assertIs(self.check(NoWheel, settles, season, value, 0, other, 0).value, value)
        self.assertEqual(self.check(NoWheel, settles, first_season(), 2, 0, 3, 0).value, 2)

    def test_seasons_that_no_misses_fit(self):
        for season in (TOO_FEW, NEVER):
            for day in (0, 2, 6):
                self.check(NoFit, best_looks, season, day)
                for wheel in (0, 1):
                    self.check(NoFit, results, season, wheel, day)
                    self.check(NoFit, left_by, season, wheel, day)
                    self.check(NoFit, settles, season, wheel, day, 1 - wheel, 6 - day)

    def test_any_wheel_values(self):
        for value in odd_values():
            self.assertIs(raised(results, TOO_FEW, value, 3).value, value)


class Calling(unittest.TestCase):
    def test_parameter_names(self):
        season = first_season()
        self.assertEqual(results(day=6, wheel=0, season=season), (0, 1))
        self.assertEqual(left_by(day=6, wheel=1, season=season), 8)
        self.assertEqual(best_looks(day=6, season=season), (0,))
        self.assertIs(settles(then=5, other=0, day=6, wheel=0, season=season), False)
        self.assertIs(settles(then=6, other=0, day=6, wheel=0, season=season), True)

    def test_kinds_of_results(self):
        season = first_season()
        self.assertEqual({type(told) for told in (results(season, 0, 6), best_looks(season, 6))}, {tuple})
        self.assertEqual({type(told) for told in (left_by(season, 0, 6), *results(season, 0, 6),
                                                  *best_looks(season, 6))}, {int})

    def test_the_same_call_twice_and_nothing_changes(self):
        season = first_season()
        kept = copy.deepcopy((season.days, season.budget, season.looks, season.due))
        calls = [(results, (0, 6)), (left_by, (1, 6)), (best_looks, (5,)), (settles, (0, 6, 0, 5))]
        first = [work(season, *told) for work, told in calls]
        self.assertEqual([work(season, *told) for work, told in reversed(calls)], first[::-1])
        self.assertEqual((season.days, season.budget, season.looks, season.due), kept)
