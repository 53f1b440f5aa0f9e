"""[1], [2], [3], [8] Seasons."""

import copy
import unittest

from turnrota.errors import InvalidSeason
from turnrota.rotas import Rota
from turnrota.seasons import Season
from turnrota.ways import is_due

from tests.samples import first_rota, first_season, large_rotas, nested, no_wheels, odd_values, raised, small_rotas
from tests.trial import due_in

LOOKS = [(2, 0, 1), (4, 1, 1)]


def wrong_looks():
    """Looks of the first rota and six days, each with something wrong in it."""
    good = (2, 0, 1)
    bad = [(-1, 0, 1), (7, 0, 1), (10 ** 18, 0, 1), (2, 2, 1), (2, -1, 1), (2, 0, 2), (2, 0, -1), (2, 0, 10 ** 18),
           [2, 0, 1], (2, 0), (2, 0, 1, 0), (), (2,), ((2, 0, 1),), "201", (2, 0, "1"), ("2", 0, 1), (2, "0", 1)]
    for value in odd_values():
        bad += [value, (value, 0, 1), (2, value, 1), (2, 0, value)]
    for thing in bad:
        yield [thing]
        yield (thing,)
        yield [good, thing]
        yield (thing, good)
        yield [good, good, (4, 1, 1), thing]
    for value in odd_values():
        if not isinstance(value, (list, tuple)) or len(value) > 0:
            yield value
    yield from (0, 1, -1, 10 ** 18, {good: True}, nested(8, good))


class Making(unittest.TestCase):
    def test_attributes(self):
        rota = first_rota()
        season = Season(rota, 6, 2, LOOKS)
        self.assertEqual((season.rota, season.days, season.budget), (rota, 6, 2))
        self.assertEqual((season.looks, season.wheels), (((2, 0, 1), (4, 1, 1)), 2))
        self.assertEqual(season.due, ((0, 0), (1, 0), (1, 1), (2, 1), (3, 0), (3, 1), (4, 0), (5, 0), (5, 1)))

    def test_no_looks_unless_passed(self):
        self.assertEqual(Season(first_rota(), 6, 2).looks, ())
        self.assertEqual(Season(first_rota(), 6, 2, []).looks, ())

    def test_parameter_names(self):
        season = Season(looks=LOOKS, budget=2, days=6, rota=first_rota())
        self.assertEqual(season, first_season())
        self.assertEqual(Season(budget=1, rota=first_rota(), days=3), Season(first_rota(), 3, 1, ()))

    def test_looks_are_ascending_and_each_once(self):
        looks = [(4, 1, 1), (2, 1, 0), (2, 0, 1), (4, 1, 1), (2, 0, 0), (2, 0, 1), (0, 1, 0)]
        told = ((0, 1, 0), (2, 0, 0), (2, 0, 1), (2, 1, 0), (4, 1, 1))
        for passed in (looks, tuple(looks), looks[::-1], looks + looks):
            self.assertEqual(Season(first_rota(), 6, 0, passed).looks, told)

    def test_looks_from_the_first_day_to_the_end(self):
        looks = ((0, 0, 0), (0, 0, 1), (6, 1, 0), (6, 1, 1))
        self.assertEqual(Season(first_rota(), 6, 0, looks).looks, looks)

    def test_least_ones(self):
        season = Season(Rota(1, [((), (0,))]), 1, 0)
        self.assertEqual((season.days, season.budget, season.wheels, season.due), (1, 0, 1, ()))
        self.assertEqual(Season(Rota(1, [((0,), (0,))]), 1, 0).due, ((0, 0),))

    def test_at_the_limits(self):
        for rota in large_rotas():
            looks = [(5 * at, at % rota.places, at % 2) for at in range(1, 13)]
            season = Season(rota, 60, 60, looks)
            self.assertEqual((season.days, season.budget, season.looks), (60, 60, tuple(looks)))

    def test_a_little_beyond_the_limits(self):
        season = Season(Rota(1, [((0,), (0,))]), 100, 100, [(day, 0, 0) for day in range(101)])
        self.assertEqual((len(season.due), len(season.looks)), (100, 101))

    def test_kinds_of_attributes(self):
        season = Season(first_rota(), 6, 2, list(LOOKS))
        self.assertEqual([type(part) for part in (season.looks, season.due)], [tuple, tuple])
        self.assertEqual({type(part) for part in season.looks + season.due}, {tuple})
        self.assertIs(type(season.wheels), int)

    def test_lists_changed_behind_the_call(self):
        looks = list(LOOKS)
        season = Season(first_rota(), 6, 2, looks)
        looks.append((6, 0, 0))
        looks[0] = None
        self.assertEqual(season, first_season())

    def test_rows_changed_behind_the_call(self):
        turned, moves = [0], [1, 0]
        rows = [(turned, moves), ([0, 1], [0, 1])]
        season = Season(Rota(2, rows), 6, 2, LOOKS)
        turned.append(1)
        moves.reverse()
        rows.pop()
        self.assertEqual(season, first_season())
        self.assertEqual(season.due, first_season().due)

    def test_arguments_are_not_changed(self):
        looks = [(4, 1, 1), (2, 0, 1), (4, 1, 1)]
        kept = copy.deepcopy(looks)
        Season(first_rota(), 6, 2, looks).seen(looks)
        self.assertEqual(looks, kept)

    def test_are_not_iterable(self):
        self.assertRaises(TypeError, iter, first_season())
        self.assertRaises(TypeError, list, first_season())


class Due(unittest.TestCase):
    def test_whole_seasons(self):
        for rota in list(small_rotas()) + list(large_rotas()):
            for days in (1, 2, 7, 20):
                season = Season(rota, days, 0)
                self.assertEqual(season.due, tuple(due_in(rota, days)))
                self.assertEqual(season.wheels, rota.places)

    def test_longest_season(self):
        for rota in large_rotas():
            season = Season(rota, 60, 60)
            self.assertEqual(season.due, tuple(due_in(rota, 60)))
            self.assertEqual(season.due, tuple((day, wheel) for day in range(60) for wheel in range(rota.places)
                                               if is_due(rota, wheel, day)))

    def test_wheels_that_are_never_due(self):
        self.assertEqual(Season(Rota(3, [((), (1, 2, 0))]), 60, 0).due, ())
        self.assertEqual(Season(Rota(3, [((2,), (1, 0, 2))]), 3, 0).due, ((0, 2), (1, 2), (2, 2)))

    def test_looks_and_budget_do_not_matter(self):
        self.assertEqual(Season(first_rota(), 6, 0).due, first_season().due)
        self.assertEqual(Season(first_rota(), 6, 60, [(3, 0, 1), (3, 0, 0)]).due, first_season().due)


class Wrong(unittest.TestCase):
    def check(self, word, days, budget, looks):
        error = raised(Season, first_rota(), days, budget, looks)
        self.assertIs(type(error), InvalidSeason, (days, budget, looks))
        self.assertEqual(error.word, word, (days, budget, looks))
        again = raised(Season, looks=looks, budget=budget, days=days, rota=first_rota())
        self.assertEqual((type(again), again.word), (InvalidSeason, word))

    def test_days(self):
        for days in odd_values() + [0, -1, -(10 ** 18)]:
            self.check("days", days, 2, LOOKS)

    def test_budget(self):
        for budget in odd_values() + [-1, -(10 ** 18)]:
            self.check("budget", 6, budget, LOOKS)

    def test_looks(self):
        for looks in wrong_looks():
            self.check("looks", 6, 2, looks)

    def test_the_first_wrong_one_is_named(self):
        for value in odd_values() + [-1]:
            self.check("days", value, value, [value])
            self.check("days", value, 2, [value])
            self.check("days", value, value, LOOKS)
            self.check("budget", 6, value, [value])

    def test_looks_behind_the_last_day_of_a_short_season(self):
        self.check("looks", 1, 0, [(2, 0, 0)])
        self.assertIsNone(raised(Season, first_rota(), 1, 0, [(1, 0, 0)]))

    def test_wheels_of_looks_are_those_of_the_rota(self):
        for value in no_wheels(2):
            self.check("looks", 6, 2, [(2, value, 1)])
        for rota in large_rotas():
            self.assertIsNone(raised(Season, rota, 6, 2, [(2, rota.places - 1, 1)]))
            self.assertEqual(raised(Season, rota, 6, 2, [(2, rota.places, 1)]).word, "looks")

    def test_limits_of_what_is_right(self):
        for days in (1, 2, 59, 60, 61):
            self.assertIsNone(raised(Season, first_rota(), days, 0))
        for budget in (0, 1, 60, 61, 10 ** 18):
            self.assertIsNone(raised(Season, first_rota(), 6, budget))


class Seen(unittest.TestCase):
    def test_the_looks_are_added(self):
        season = first_season()
        told = season.seen([(6, 0, 0), (2, 0, 1), (0, 1, 0)])
        self.assertEqual(told, Season(first_rota(), 6, 2, [(0, 1, 0), (2, 0, 1), (4, 1, 1), (6, 0, 0)]))
        self.assertIs(type(told), Season)
        self.assertEqual(told.due, season.due)

    def test_the_elder_season_is_as_it_was(self):
        season = first_season()
        season.seen([(6, 0, 0)])
        self.assertEqual((season.looks, season.budget), (((2, 0, 1), (4, 1, 1)), 2))
        self.assertEqual(season, first_season())

    def test_ways_to_pass_them(self):
        for looks in ([(6, 0, 0)], ((6, 0, 0),), [(6, 0, 0), (6, 0, 0)], season_looks()):
            self.assertEqual(first_season().seen(looks), first_season().seen(looks=looks))
        self.assertEqual(first_season().seen([]), first_season())
        self.assertEqual(first_season().seen(()), first_season())
        self.assertEqual(first_season().seen(first_season().looks), first_season())

    def test_looks_that_gainsay(self):
        self.assertEqual(first_season().seen([(2, 0, 0)]).looks, ((2, 0, 0), (2, 0, 1), (4, 1, 1)))

    def test_wrong_ones(self):
        season = first_season()
        for looks in wrong_looks():
            error = raised(season.seen, looks)
            self.assertIs(type(error), InvalidSeason, looks)
            self.assertEqual(error.word, "looks")
        self.assertEqual(season, first_season())

    def test_lists_changed_behind_the_call(self):
        looks = [(6, 0, 0)]
        season = first_season().seen(looks)
        looks[0] = (6, 0, 1)
        self.assertEqual(season.looks, ((2, 0, 1), (4, 1, 1), (6, 0, 0)))


def season_looks():
    return Season(first_rota(), 6, 0, [(6, 0, 0), (0, 0, 0), (3, 1, 1)]).looks


class But(unittest.TestCase):
    def test_another_budget(self):
        season = first_season()
        for budget in (0, 1, 2, 3, 60, 10 ** 18):
            told = season.but(budget)
            self.assertIs(type(told), Season)
            self.assertEqual(told, Season(first_rota(), 6, budget, LOOKS))
            self.assertEqual(told, season.but(budget=budget))
            self.assertEqual((told.due, told.wheels), (season.due, 2))
        self.assertEqual(season, first_season())
        self.assertEqual(season.budget, 2)

    def test_wrong_ones(self):
        season = first_season()
        for budget in odd_values() + [-1, -(10 ** 18)]:
            error = raised(season.but, budget)
            self.assertIs(type(error), InvalidSeason, budget)
            self.assertEqual(error.word, "budget")
        self.assertEqual(season, first_season())


class Equality(unittest.TestCase):
    def test_equal_ones(self):
        season = first_season()
        self.assertTrue(season == first_season())
        self.assertFalse(season != first_season())
        self.assertTrue(season == Season(Rota(2, (((0,), [1, 0]), ((1, 0), [0, 1]))), 6, 2, LOOKS[::-1] + LOOKS))
        self.assertIs(season == season, True)

    def test_each_attribute_counts(self):
        season = first_season()
        others = [Season(Rota(2, [([0], (1, 0)), ([0], (0, 1))]), 6, 2, LOOKS),
                  Season(Rota(3, [([0], (1, 0, 2)), ([0, 1], (0, 1, 2))]), 6, 2, LOOKS),
                  Season(first_rota(), 7, 2, LOOKS), Season(first_rota(), 6, 3, LOOKS),
                  Season(first_rota(), 6, 2, LOOKS[:1]), Season(first_rota(), 6, 2, LOOKS + [(0, 0, 0)]),
                  Season(first_rota(), 6, 2)]
        for other in others:
            self.assertIs(season == other, False)
            self.assertIs(season != other, True)
            self.assertIs(other == season, False)

    def test_seasons_with_the_same_due_turnings(self):
        rows = [([0], [0]), ([0], [0])]
        self.assertNotEqual(Season(Rota(1, rows), 4, 0), Season(Rota(1, rows[:1]), 4, 0))

    def test_values_of_other_kinds(self):
        season = first_season()
        for value in odd_values() + [0, 1, 6, season.looks, season.due, LOOKS, (first_rota(), 6, 2, LOOKS)]:
            if not isinstance(value, Season):
                self.assertIs(season == value, False)
                self.assertIs(value == season, False)
                self.assertIs(season != value, True)
