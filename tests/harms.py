"""Harms that several tests use, and a reckoning of harm day by day, of the tests' own."""

import random
from fractions import Fraction

from turnrota.rings import Harm
from turnrota.rotas import Rota

from tests.samples import DAILY, first_rota, walk


def mild_harm():
    """The harm of the document's examples."""
    return Harm(first_rota(), 0, 4, 1, 2)


def due_flags(rota, wheel):
    """For each day of the wheel's round whether it is due, by the plain walk."""
    flags = []
    for day, (lying, due) in enumerate(walk(rota, 6 * 7 * len(rota) + 1)):
        if day and day % len(rota) == 0 and lying[wheel] == wheel:
            return flags
        flags.append(wheel in due)
    return None


def long_flags(harm, days):
    """For so many days whether the wheel is due."""
    flags = due_flags(harm.rota, harm.wheel)
    return [flags[day % len(flags)] for day in range(days)]


def can_lie(harm):
    """Whether all due turnings can be missed, by a look at each span."""
    flags = long_flags(harm, 2 * len(due_flags(harm.rota, harm.wheel)) + harm.span)
    return all(sum(flags[day:day + harm.span]) <= harm.misses for day in range(len(flags) - harm.span + 1))


def walked_harm(harm, days, missed):
    """The mean harm of a round, day by day, or None if it is none; days from 1 on, `missed` a tuple of integers."""
    flags = due_flags(harm.rota, harm.wheel)
    due = [day for day in range(days) if flags[day % len(flags)]]
    if days % len(flags) or any(day not in due for day in missed) or len(missed) >= len(due):
        return None
    if list(missed) != sorted(set(missed)):
        return None
    times = harm.span // days + 2
    for first in range(days):
        if sum(first <= day + days * again < first + harm.span for day in missed for again in range(times)) > harm.misses:
            return None
    total, turned = 0, None
    for day in range(3 * days):
        if flags[day % len(flags)] and day % days not in missed:
            turned = day
        if day >= 2 * days:
            total += max(0, day + 1 - turned - harm.limit)
    return Fraction(total, days)


def day_steps(harm):
    """What can come day by day, from a made turning without misses on: for each state the pairs (harm, state);
    a state is the day of the round, how long the wheel lay unturned at its end, and the misses of the last days."""
    flags = due_flags(harm.rota, harm.wheel)
    ahead = [(day, 0, (0,) * (harm.span - 1)) for day, due in enumerate(flags) if due]
    steps = {}
    while ahead:
        state = ahead.pop()
        if state not in steps:
            day, lain, missed = (state[0] + 1) % len(flags), state[1] + 1, state[2]
            steps[state] = []
            if flags[day]:
                steps[state].append((0, (day, 0, (missed + (0,))[1:])))
            if not flags[day] or sum(missed) < harm.misses:
                left = (missed + (1 if flags[day] else 0,))[1:]
                steps[state].append((max(0, lain + 1 - harm.limit), (day, lain, left)))
            ahead += [state for _, state in steps[state]]
    return steps


def none_is_greater(harm, mean):
    """Whether no round has a greater mean, by weights of the day states that come to rest."""
    steps = day_steps(harm)
    weights = dict.fromkeys(steps, 0)
    for _ in range(len(steps) + 1):
        changed = False
        for state, behind in steps.items():
            for harm_then, then in behind:
                weight = weights[state] + harm_then * mean.denominator - mean.numerator
                if weight > weights[then]:
                    weights[then], changed = weight, True
        if not changed:
            return True
    return False


def some_harms():
    """Small harms, always the same ones."""
    source = random.Random(21)
    yield mild_harm()
    for places in (1, 1, 2, 2, 2, 3, 3):
        for rows in (1, 2, 3):
            for _ in range(8):
                rota = Rota(places, [(source.sample(range(places), source.randint(0, places)),
                                      source.sample(range(places), places)) for _ in range(rows)])
                yield Harm(rota, source.randrange(places), source.randint(1, 5), source.choice((0, 1, 1, 2, 2, 3)),
                           source.choice((1, 1, 2, 3, 4)))


def large_harms():
    """Harms at the limits: four places and rows, spans of 10 days with 3 misses, limits up to 30."""
    source = random.Random(22)
    yield Harm(DAILY, 0, 10, 3, 1)
    yield Harm(Rota(4, [([0, 1, 2, 3], (1, 2, 3, 0))] + [([0, 1, 2, 3], (0, 1, 2, 3))] * 3), 2, 10, 3, 1)
    yield Harm(Rota(4, [([0, 1, 2, 3], (1, 2, 3, 0))] + [([0, 1, 3], (0, 1, 2, 3))] * 3), 2, 10, 3, 2)
    for limit in (1, 2, 3, 5, 30):
        for _ in range(4):
            rota = Rota(4, [(source.sample(range(4), source.randint(1, 4)), source.sample(range(4), 4))
                            for _ in range(4)])
            yield Harm(rota, source.randrange(4), 10, 3, limit)
