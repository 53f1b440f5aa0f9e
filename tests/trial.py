"""Small seasons, tried out with all lots of misses, by a reckoning of the tests' own."""

import random
from itertools import combinations

from turnrota.rotas import Rota
from turnrota.seasons import Season

from tests.samples import walk


def due_in(rota, days):
    """The pairs (day, wheel) that are due, by the plain walk."""
    return [(day, wheel) for day, (_, due) in enumerate(walk(rota, days)) for wheel in due]


def course(rota, days, missed):
    """For each day from 0 to the end the sides and the days unturned of all wheels at its beginning."""
    up, turned = [0] * rota.places, [None] * rota.places
    told = []
    for day, (_, due) in enumerate(walk(rota, days + 1)):
        told.append((tuple(up), tuple(day if last is None else day - last for last in turned)))
        for wheel in due:
            if (day, wheel) not in missed:
                up[wheel], turned[wheel] = 1 - up[wheel], day
    return told


class Trial:
    """What a season has if all lots of misses are tried; `free` are the lots that break no look."""

    def __init__(self, season):
        self.season = season
        self.due = due_in(season.rota, season.days)
        self.courses = {}
        for many in range(len(self.due) + 1):
            for lot in combinations(self.due, many):
                told = course(season.rota, season.days, lot)
                if all(told[day][0][wheel] == up for day, wheel, up in season.looks):
                    self.courses[lot] = told
        self.free = sorted(self.courses)
        self.lots = [lot for lot in self.free if len(lot) <= season.budget]

    def sides(self, wheel, day):
        """The side of a wheel for each lot that fits."""
        return [self.courses[lot][day][0][wheel] for lot in self.lots]

    def lain(self, wheel, day):
        """The days that a wheel lay unturned for each lot that fits."""
        return [self.courses[lot][day][1][wheel] for lot in self.lots]


def some_rota(source):
    """A rota with up to three places and rows."""
    places = source.choice((1, 1, 2, 2, 2, 3))
    return Rota(places, [(source.sample(range(places), source.randint(0, places)),
                          source.sample(range(places), places)) for _ in range(source.randint(1, 3))])


def some_looks(source, rota, days):
    """Up to five looks, most often such that some misses go with them; also twice, and gainsaying."""
    missed = [pair for pair in due_in(rota, days) if source.random() < 0.3]
    told = course(rota, days, missed)
    looks = []
    for _ in range(source.choice((0, 1, 1, 2, 2, 3, 4, 5))):
        day, wheel = source.randint(0, days), source.randrange(rota.places)
        up = told[day][0][wheel]
        looks.append((day, wheel, up if source.random() < 0.93 else 1 - up))
    return looks


def made_seasons(many, most_due):
    """So many seasons with few due turnings, always the same ones."""
    source = random.Random(11)
    while many > 0:
        rota, days = some_rota(source), source.randint(1, 7)
        if len(due_in(rota, days)) <= most_due:
            yield Season(rota, days, source.choice((0, 1, 1, 2, 2, 3, 4, 9)), some_looks(source, rota, days))
            many -= 1


def special_seasons():
    """Seasons at edges: no turning, looks on the first day and behind the last one, and looks that gainsay."""
    one = Rota(1, [([0], [0])])
    none = Rota(2, [([], [1, 0])])
    two = Rota(2, [([0], (1, 0)), ([0, 1], (0, 1))])
    yield Season(one, 1, 0)
    yield Season(one, 1, 1, [(0, 0, 0)])
    yield Season(one, 1, 1, [(0, 0, 1)])
    yield Season(one, 1, 1, [(0, 0, 0), (0, 0, 1)])
    yield Season(one, 1, 1, [(1, 0, 0)])
    yield Season(one, 1, 0, [(1, 0, 0)])
    yield Season(one, 4, 2, [(2, 0, 0), (2, 0, 1)])
    yield Season(one, 4, 4, [(2, 0, 0), (2, 0, 1), (4, 0, 1)])
    yield Season(one, 4, 2, [(1, 0, 0), (2, 0, 0)])
    yield Season(one, 5, 3, [(1, 0, 0), (5, 0, 0)])
    yield Season(none, 3, 2)
    yield Season(none, 3, 2, [(3, 1, 0)])
    yield Season(none, 3, 2, [(3, 1, 1)])
    for budget in range(5):
        yield Season(two, 6, budget, [(2, 0, 1), (4, 1, 1)])
        yield Season(two, 5, budget, [(5, 0, 0), (5, 1, 0)])
        yield Season(two, 5, budget)


_TRIALS = []


def trials():
    """Trials of all these seasons; they are made only once."""
    if not _TRIALS:
        _TRIALS.extend(Trial(season) for season in [*special_seasons(), *made_seasons(500, 10)])
    return _TRIALS
