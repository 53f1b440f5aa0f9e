"""Deciding: what can have been, and what is sure, for all misses that fit.

The looks at a wheel part its turnings into stretches, and tell of each closed one whether an odd or an
even number of its turnings was missed. Each odd one has a miss, and no turning is in two of them.
"""

from turnrota.errors import NoFit, NoTurning
from turnrota.seasons import is_turning
from turnrota.ways import check_wheel


def possible(season):
    """Whether some misses fit."""
    need = least(season)
    return need is not None and need <= season.budget


def least(season):
    """The least number of misses that break no look, or None if all misses break one."""
    odd = odd_stretches(season)
    return len(odd) if all(odd) else None


def side(season, wheel, day):
    """The side of a wheel that is up at the beginning of a day in all cases, or None."""
    can_be = possible_sides(season, wheel, day)
    return can_be[0] if len(can_be) == 1 else None


def open_wheels(season, day):
    """The wheels whose side is not sure at the beginning of a day."""
    return tuple([wheel for wheel in range(season.wheels) if side(season, wheel, day) is None])


def turning(season, day, wheel):
    """Whether a turning was made or missed in all cases: "made", "missed", or else "open"."""
    check_turning(season, day, wheel)
    if not any([possible(supposed) for supposed in if_missed(season, day, wheel)]):
        return "made"
    return "open" if any([possible(supposed) for supposed in if_made(season, day, wheel)]) else "missed"


def surely_missed(season):
    """The pairs (day, wheel) that were missed in all cases."""
    check_possible(season)
    # The one miss of an odd stretch can be spent on any of its turnings, so it is sure only if there is one.
    return tuple(sorted([pairs[0] for pairs in odd_stretches(season) if len(pairs) == 1]))


def stretches(season, wheel):
    """The stretches (first, last, odd) of a wheel, in order; the open one is last, and `odd` is None for it."""
    check_wheel(season.rota, wheel)
    return tuple([(first, last, odd) for first, last, odd, _ in parts(season, wheel)])


def slack(season):
    """What is left of the budget beyond the least number of misses."""
    check_possible(season)
    return season.budget - least(season)


def possible_sides(season, wheel, day):
    """The sides of a wheel that can be up at the beginning of a day, ascending."""
    check_wheel(season.rota, wheel)
    check_possible(season)
    return tuple([up for up in (0, 1) if possible(season.seen([(day, wheel, up)]))])


def sure_sides(season):
    """For each wheel its side behind the last day, or None if it is not sure; None for all if no misses fit."""
    if not possible(season):
        return (None,) * season.wheels
    return tuple([side(season, wheel, season.days) for wheel in range(season.wheels)])


def least_misses(season):
    """Some lot of the least number of misses that break no look; there has to be one."""
    return tuple(sorted([pairs[0] for pairs in odd_stretches(season)]))


def odd_stretches(season):
    """For each odd stretch of the season the pairs (day, wheel) of its turnings."""
    return [[(day, wheel) for day in days]
            for wheel in range(season.wheels) for _, _, odd, days in parts(season, wheel) if odd]


def parts(season, wheel):
    """The stretches of a wheel with the days of their turnings: (first, last, odd, days)."""
    found = []
    first, up = 0, 0
    # Of two looks of one day that gainsay one another, that at side 0 comes first.
    for day, seen_wheel, seen_up in season.looks:
        if seen_wheel == wheel:
            days = days_between(season.turnings[wheel], first, day)
            found.append((first, day, (len(days) + up + seen_up) % 2 == 1, days))
            first, up = day, seen_up
    found.append((first, season.days, None, days_between(season.turnings[wheel], first, season.days)))
    return found


def days_between(days, first, last):
    """Those of the days that stand from a first one to the one ahead of a last one."""
    return [day for day in days if first <= day < last]


def if_missed(season, day, wheel):
    """The seasons that suppose a due turning missed: the same side was seen ahead of it and behind it."""
    return [season.seen([(day, wheel, up), (day + 1, wheel, up)]) for up in (0, 1)]


def if_made(season, day, wheel):
    """The seasons that suppose a due turning made: another side was seen behind it than ahead of it."""
    return [season.seen([(day, wheel, up), (day + 1, wheel, 1 - up)]) for up in (0, 1)]


def check_possible(season):
    """Raises NoFit if no misses fit."""
    if not possible(season):
        raise NoFit()


def check_turning(season, day, wheel):
    """Raises NoWheel, NoFit, or NoTurning if the wheel is not due on the day, which can be any value."""
    check_wheel(season.rota, wheel)
    check_possible(season)
    if not is_turning(season, (day, wheel)):
        raise NoTurning(day)
