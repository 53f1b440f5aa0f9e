"""[1], [2], [9] Misses of a season: sides, days unturned, looks that are broken, and what fits."""

import copy
import random
import unittest

from turnrota.errors import InvalidMisses
from turnrota.rotas import Rota
from turnrota.seasons import Season, broken, fits, lain, sides

from tests.samples import first_rota, first_season, large_rotas, nested, odd_values, raised
from tests.trial import course, trials


def wrong_misses():
    """Misses that are none of the first season, with the index of the first wrong thing."""
    bad = [(0, 1), (6, 0), (-1, 0), (0, -1), (0, 2), (1, 2), (10 ** 18, 0), [0, 0], (0, 0, 0), (0,), (), "00",
           ((0, 0),), (1, True), (True, 1), (True, True), (False, 0), (0, False), (0, None), ("0", 0), (0, "0")]
    for value in odd_values():
        bad += [value, (value, 0), (0, value), (0, 0, value)]
    for thing in bad:
        yield [thing], 0
        yield (thing, (0, 0)), 0
        yield [(0, 0), thing], 1
        yield [(5, 1), (0, 0), (2, 1), thing, thing], 3
    for value in odd_values() + [0, 1, -1, {(0, 0): True}, "", "(0, 0)"]:
        if not isinstance(value, (list, tuple)):
            yield value, 0
    yield nested(8, (0, 0)), 0
    yield [(0, 0), (0, 0)], 1
    yield ((1, 1), (0, 0), (5, 1), (0, 0), (0, 0)), 3
    yield [(0, 0), (1, 1), (0, 0), (9, 9)], 2
    yield [(0, 0), (9, 9), (0, 0)], 1
    yield list(first_season().due) + [(3, 0)], 9


class Examples(unittest.TestCase):
    def test_by_hand(self):
        season = first_season()
        self.assertEqual([sides(season, [], day) for day in range(7)],
                         [(0, 0), (1, 0), (0, 1), (0, 0), (1, 1), (0, 1), (1, 0)])
        self.assertEqual([lain(season, [], day) for day in range(7)],
                         [(0, 0), (1, 1), (1, 1), (2, 1), (1, 1), (1, 2), (1, 1)])

    def test_no_turning_made(self):
        season = first_season()
        for day in range(7):
            self.assertEqual(sides(season, season.due, day), (0, 0))
            self.assertEqual(lain(season, season.due, day), (day, day))

    def test_a_miss_on_the_day_itself_does_not_matter_at_its_beginning(self):
        season = first_season()
        self.assertEqual(sides(season, [(3, 0)], 3), sides(season, [], 3))
        self.assertEqual(sides(season, [(3, 0)], 4), (0, 1))
        self.assertEqual(lain(season, [(3, 0)], 4), (3, 1))


class DayByDay(unittest.TestCase):
    def test_small_seasons(self):
        for trial in trials():
            for lot, told in trial.courses.items():
                for day in range(trial.season.days + 1):
                    self.assertEqual((sides(trial.season, lot, day), lain(trial.season, lot, day)), told[day])

    def test_long_seasons(self):
        source = random.Random(3)
        for rota in large_rotas():
            season = Season(rota, 60, 60)
            for many in (0, 1, 20, 60, len(season.due)):
                missed = source.sample(season.due, min(many, len(season.due)))
                told = course(rota, 60, missed)
                for day in (0, 1, 2, 17, 30, 59, 60):
                    self.assertEqual((sides(season, missed, day), lain(season, missed, day)), told[day])

    def test_looks(self):
        source = random.Random(5)
        for trial in trials():
            season = trial.season
            for _ in range(4):
                missed = source.sample(season.due, source.randint(0, len(season.due)))
                told = course(season.rota, season.days, missed)
                wrong = tuple(at for at, (day, wheel, up) in enumerate(season.looks) if told[day][0][wheel] != up)
                self.assertEqual(broken(season, missed), wrong)
                self.assertIs(fits(season, missed), not wrong and len(missed) <= season.budget)

    def test_looks_that_gainsay_break_one_always(self):
        season = Season(Rota(1, [([0], [0])]), 4, 4, [(2, 0, 0), (2, 0, 1)])
        self.assertEqual((broken(season, []), broken(season, [(0, 0)])), ((1,), (0,)))
        self.assertFalse(fits(season, []) or fits(season, [(0, 0)]))


class Fitting(unittest.TestCase):
    def test_all_lots_of_small_seasons(self):
        for trial in trials():
            for lot in trial.free:
                self.assertEqual(broken(trial.season, lot), ())
                self.assertIs(fits(trial.season, lot), len(lot) <= trial.season.budget)

    def test_more_misses_than_the_budget(self):
        season = Season(first_rota(), 6, 2)
        self.assertIs(fits(season, [(0, 0), (1, 0)]), True)
        self.assertIs(fits(season, [(0, 0), (1, 0), (1, 1)]), False)
        self.assertEqual(broken(season, season.due), ())
        self.assertIs(fits(season.but(9), season.due), True)
        self.assertIs(fits(season.but(8), season.due), False)
        self.assertIs(fits(season.but(0), []), True)


class Order(unittest.TestCase):
    def test_any_order_lists_and_tuples(self):
        season = first_season()
        source = random.Random(1)
        for many in range(10):
            missed = sorted(source.sample(season.due, many))
            first = answers(season, missed)
            for passed in (tuple(missed), missed[::-1], source.sample(missed, many)):
                self.assertEqual(answers(season, passed), first)

    def test_arguments_are_not_changed(self):
        season = first_season()
        missed = [(5, 0), (0, 0)]
        kept = copy.deepcopy((season.looks, season.due))
        first = answers(season, missed)
        self.assertEqual(answers(season, missed), first)
        self.assertEqual((missed, (season.looks, season.due)), ([(5, 0), (0, 0)], kept))

    def test_parameter_names(self):
        season = first_season()
        self.assertEqual(sides(day=6, misses=[(0, 0)], season=season), sides(season, [(0, 0)], 6))
        self.assertEqual(lain(day=6, misses=[(5, 0)], season=season), (2, 1))
        self.assertEqual(broken(misses=[], season=season), (0,))
        self.assertIs(fits(misses=[(1, 0)], season=season), True)

    def test_kinds_of_results(self):
        season = first_season()
        for told in (sides(season, [], 6), lain(season, [], 6), broken(season, [])):
            self.assertIs(type(told), tuple)
            self.assertEqual({type(number) for number in told}, {int})
        self.assertEqual({type(fits(season, missed)) for missed in ([], [(1, 0)], [(0, 0), (1, 0)])}, {bool})


def answers(season, missed):
    return (sides(season, missed, 6), lain(season, missed, 6), sides(season, missed, 3), broken(season, missed),
            fits(season, missed))


class Wrong(unittest.TestCase):
    def test_the_index_of_the_first_wrong_thing(self):
        season = first_season()
        for misses, at in wrong_misses():
            for work, told in ((sides, (6,)), (sides, (0,)), (lain, (6,)), (lain, (0,)), (broken, ()), (fits, ())):
                error = raised(work, season, misses, *told)
                self.assertIs(type(error), InvalidMisses, (work, misses))
                self.assertEqual((error.at, type(error.at)), (at, int), (work, misses))

    def test_ahead_of_a_budget_that_is_passed(self):
        self.assertEqual(raised(fits, first_season().but(0), [(0, 0), (1, 0), (9, 9)]).at, 2)
        self.assertEqual(raised(fits, first_season().but(0), [(0, 0), (0, 0)]).at, 1)

    def test_seasons_without_turnings_have_no_misses(self):
        season = Season(Rota(1, [((), (0,))]), 6, 6)
        self.assertEqual(raised(fits, season, [(0, 0)]).at, 0)
        self.assertEqual((sides(season, [], 6), lain(season, [], 6)), ((0,), (6,)))

    def test_right_ones_raise_nothing(self):
        season = first_season()
        for misses in ([], (), season.due, list(season.due)[::-1], [(0, 0)], ((5, 1), (0, 0))):
            for work, told in ((sides, (6,)), (lain, (6,)), (broken, ()), (fits, ())):
                self.assertIsNone(raised(work, season, misses, *told))
