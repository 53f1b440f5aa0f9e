"""Rotas and values that several tests use, and a plain walk through the days to compare with."""

import random
from itertools import permutations, product
from math import comb

from turnrota.errors import TurnError
from turnrota.rotas import Rota
from turnrota.seasons import Season


DAILY = Rota(1, [([0], [0])])
SIX = Rota(6, [([0, 1, 2, 3, 4, 5], (1, 2, 3, 4, 5, 0))] * 7)


def first_rota():
    """The rota of the document's examples."""
    return Rota(2, [([0], (1, 0)), ([0, 1], (0, 1))])


def first_season():
    """The season of the document's examples."""
    return Season(first_rota(), 6, 2, [(2, 0, 1), (4, 1, 1)])


# No misses fit: too few may be missed, or all misses break a look.
TOO_FEW = Season(first_rota(), 6, 0, [(2, 0, 1)])
NEVER = Season(first_rota(), 6, 60, [(2, 0, 1), (2, 0, 0)])


def within(many, budget):
    """How many lots there are of at most so many of so many turnings."""
    return sum(comb(many, misses) for misses in range(budget + 1))


def nested(depth, inner):
    """A value within so many lists and tuples, by turns."""
    for level in range(depth):
        inner = [inner] if level % 2 else (inner,)
    return inner


def odd_values():
    """Any values that are no integers, made anew."""
    return [True, False, None, "", "0", "1", "none", "places 1\nturn 0 move 0", first_rota(), [], (), [0], (0,),
            [True], (False,), [None], [[]], ((),), [(0,)], (0, (0,)), ["0"], [first_rota()], first_season(),
            nested(8, 0), nested(8, True), nested(7, None)]


def no_wheels(places):
    """Any values that are no numbers of one of so many wheels."""
    return odd_values() + [-1, -places, -(10 ** 18), places, places + 1, 10 ** 18]


def small_rotas():
    """All rotas with one or two places and one or two rows, and those with three places and one row."""
    for places, most in ((1, 2), (2, 2), (3, 1)):
        rows = [([spot for spot in range(places) if bits[spot]], moves)
                for bits in product((0, 1), repeat=places) for moves in permutations(range(places))]
        for many in range(1, most + 1):
            for chosen in product(rows, repeat=many):
                yield Rota(places, list(chosen))


def large_rotas():
    """Rotas up to the limits of 6 places and 7 rows, always the same ones."""
    source = random.Random(7)
    for places in range(1, 7):
        for many in (1, 2, 3, 5, 7):
            yield Rota(places, [(source.sample(range(places), source.randint(0, places)),
                                 source.sample(range(places), places)) for _ in range(many)])


def walk(rota, days):
    """For each day the wheels by their places at its beginning, and the lot of wheels that are due."""
    lying = list(range(rota.places))
    for day in range(days):
        turned, moves = rota.rows[day % len(rota.rows)]
        yield list(lying), sorted(lying[spot] for spot in turned)
        moved = [None] * rota.places
        for spot, wheel in enumerate(lying):
            moved[moves[spot]] = wheel
        lying = moved


def raised(work, *told, **named):
    """The error of the package that a call raises, or None."""
    try:
        work(*told, **named)
    except TurnError as error:
        return error
    return None
