"""Comparing: rotas held against one another for all numbers of misses."""

from turnrota.errors import InvalidRota
from turnrota.evenness import first_longer
from turnrota.rotas import Rota
from turnrota.ways import round_days, round_dues


def never_staler(p, q):
    """Whether for each wheel and each number of misses the gap by p is no longer than that by q."""
    return staler(p, q) is None


def staler(p, q):
    """Some pair (wheel, misses) with the least number of misses for which the gap by p is longer, or None."""
    if p.places != q.places:
        raise InvalidRota("places")
    found = [(first_staler(p, wheel, q, wheel), wheel) for wheel in range(p.places)]
    longer = [(misses, wheel) for misses, wheel in found if misses is not None]
    if not longer:
        return None
    misses, wheel = min(longer)
    return wheel, misses


def fair(rota):
    """Whether all wheels have the same gap for all numbers of misses."""
    # If no wheel is staler than the next one, all the way round, all are the same.
    following = [(wheel, (wheel + 1) % rota.places) for wheel in range(rota.places)]
    return all([first_staler(rota, wheel, rota, other) is None for wheel, other in following])


def even_rota(places, turned):
    """The rota with one row that turns so many places each day, and all wheels evenly."""
    moves = [(spot + turned) % places for spot in range(places)]
    return Rota(places, [(list(range(turned)), moves)])


def shifted(rota, days):
    """The rota begun so many rows later."""
    first = days % len(rota)
    return Rota(rota.places, rota.rows[first:] + rota.rows[:first])


def first_staler(p, wheel, q, other):
    """The least number of misses with which the gap of a wheel by p is longer than that of another by q, or None."""
    days, others = round_dues(p, wheel), round_dues(q, other)
    # A wheel that is never due has a gap longer than each number.
    if not others:
        return None
    if not days:
        return 0
    return first_longer(days, round_days(p, wheel), others, round_days(q, other))
