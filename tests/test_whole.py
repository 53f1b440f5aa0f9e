"""[2], [3] What holds for the whole program: the same call twice, equal arguments, arguments that stay as they are."""

import copy
import importlib
import inspect
import random
import unittest

from turnrota import counting, evenness, lying, papers, rings, seasons
from turnrota.errors import TurnError
from turnrota.live import Live
from turnrota.rings import Harm
from turnrota.rotas import Rota
from turnrota.seasons import Season

from tests.samples import first_rota
from tests.test_layout import FUNCTIONS

LOOKS = [(4, 1, 1), (2, 0, 1), (6, 0, 0), (2, 0, 1)]


def first_season(looks):
    return Season(first_rota(), 6, 3, looks)


def arguments(looks):
    """Arguments by parameter names that go with all functions, made anew."""
    rota = first_rota()
    return {
        "rota": rota, "wheel": 1, "day": 5, "spot": 0, "at": 2, "season": Season(rota, 6, 3, looks),
        "misses": 4, "days": 4, "period": 9, "turnings": 4, "others": [7, 0, 3], "other": 0, "then": 6,
        "harm": Harm(rota, 0, 4, 1, 2), "missed": (1,), "value": (1, 4), "paper": ((0, (), 0),), "p": rota,
        "q": Rota(2, [([0, 1], (1, 0)), ([], (0, 1))]), "places": 5, "turned": 2,
    }


def special(function, given):
    """What some functions take in the place of an argument of the same name."""
    if function.__module__ == "turnrota.evenness":
        return {"days": [4, 0, 8, 1]}
    if function in (seasons.sides, seasons.lain, seasons.broken, seasons.fits):
        return {"misses": [(3, 0), (0, 0)]}
    if function is counting.number_of:
        return {"misses": list(counting.lot_at(given["season"], 3))[::-1]}
    return {}


def functions():
    """All functions of the interface."""
    return [getattr(importlib.import_module(f"turnrota.{name}"), function)
            for name, listed in FUNCTIONS.items() for function in listed]


def results(order, looks):
    """For each function what it returns, called in this order by parameter names."""
    given = arguments(looks)
    told = {}
    for function in order:
        passed = {**given, **special(function, given)}
        names = list(inspect.signature(function).parameters)
        try:
            told[function] = function(**{name: passed[name] for name in reversed(names)})
        except TurnError as error:
            told[function] = (type(error), vars(error))
    return told


def tell(thing):
    """A copy of what an argument holds."""
    if isinstance(thing, Rota):
        return thing.places, copy.deepcopy(thing.rows)
    if isinstance(thing, (Season, Harm)):
        return {name: tell(part) for name, part in vars(thing).items()}
    return copy.deepcopy(thing)


class Whole(unittest.TestCase):
    def test_the_interface_is_gone_through(self):
        self.assertEqual(len(functions()), 50)

    def test_the_same_call_twice_with_other_calls_between(self):
        order = functions()
        first = results(order, LOOKS)
        for seed in range(5):
            random.Random(seed).shuffle(order)
            again = results(order, LOOKS)
            for function in order:
                self.assertEqual(again[function], first[function], function)

    def test_equal_seasons_with_looks_in_another_order(self):
        order = functions()
        first = results(order, LOOKS)
        for looks in (LOOKS[::-1], tuple(sorted(LOOKS)), LOOKS[:3], LOOKS + LOOKS):
            self.assertEqual(first_season(looks), first_season(LOOKS))
            again = results(order, looks)
            for function in order:
                self.assertEqual(again[function], first[function], function)

    def test_arguments_by_position(self):
        given = arguments(LOOKS)
        first = results(functions(), LOOKS)
        for function in functions():
            passed = {**given, **special(function, given)}
            try:
                told = function(*[passed[name] for name in inspect.signature(function).parameters])
            except TurnError as error:
                told = (type(error), vars(error))
            self.assertEqual(told, first[function], function)

    def test_arguments_stay_as_they_are(self):
        given = arguments(list(LOOKS))
        for function in functions():
            passed = {**given, **special(function, given)}
            kept = {name: tell(thing) for name, thing in passed.items()}
            try:
                function(**{name: passed[name] for name in inspect.signature(function).parameters})
            except TurnError:
                pass
            self.assertEqual({name: tell(thing) for name, thing in passed.items()}, kept, function)

    def test_what_was_returned_may_be_passed_on(self):
        season = first_season([(2, 0, 1)])
        lot = counting.lot_at(season, counting.count(season) // 2)
        self.assertTrue(seasons.fits(season, lot))
        self.assertTrue(seasons.fits(season, lying.lying_misses(season, 0)[1]))
        days = evenness.even_days(60, 17)
        self.assertTrue(evenness.is_best(days, 60))
        harm = Harm(Rota(4, [([0, 1, 2, 3], (1, 2, 3, 0))] * 4), 0, 10, 3, 1)
        days, missed = rings.worst_round(harm)
        self.assertEqual(rings.harm_of(harm, days, missed), rings.mean_harm(harm))
        told = papers.paper(harm, rings.mean_harm(harm))
        self.assertTrue(papers.paper_holds(harm, rings.mean_harm(harm), told[::-1]))
        self.assertFalse(papers.paper_holds(harm, rings.mean_harm(harm), told[10:]))
        live = Live(season)
        self.assertIs(live.several(season.looks + live.season.looks), True)
