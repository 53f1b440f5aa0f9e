"""Evenness: days on a ring, and how evenly they stand there.

With so many days more missed as there are in the ring, each gap is longer by the whole period. So the first
numbers of misses tell all of them.
"""

from math import lcm

from turnrota.errors import InvalidDays
from turnrota.kinds import is_below, is_sequence
from turnrota.lying import widest_gap
from turnrota.ways import far_item


def ring_gap(days, period, misses):
    """The greatest number of days from one of the days of a ring to the one `misses` + 1 of them later."""
    return widest_gap(ring_days(days, period), period, misses)


def even_days(period, turnings):
    """So many days of a ring that stand as evenly as can be."""
    return tuple([-(-at * period // turnings) for at in range(turnings)])


def least_gap(period, turnings, misses):
    """The least `ring_gap` of so many days of a ring."""
    # It is the mean of all of them, rounded up, since even days have it.
    return -(-(misses + 1) * period // turnings)


def is_best(days, period):
    """Whether the days of a ring have the least `ring_gap` of so many days, for all numbers of misses."""
    ring = ring_days(days, period)
    return first_gaps(ring, period) == [least_gap(period, len(ring), misses) for misses in range(len(ring))]


def no_longer(days, others, period):
    """Whether for all numbers of misses the `ring_gap` of some days is at most that of others."""
    return first_longer(ring_days(days, period), period, ring_days(others, period), period) is None


def first_longer(days, period, others, other_period):
    """The least number of misses with which the gap of some days, that come again after a period, is longer than
    that of others in theirs, or None."""
    gaps, other_gaps = first_gaps(days, period), first_gaps(others, other_period)
    # The last one of these is whole rounds for both, so what follows are the same gaps, but further by those: who
    # was not longer up to then will never be.
    for misses in range(lcm(len(days), len(others))):
        if far_item(gaps, period, misses) > far_item(other_gaps, other_period, misses):
            return misses
    return None


def first_gaps(days, period):
    """The gaps for the first numbers of misses: those for all further ones come again, a period longer."""
    return [widest_gap(days, period, misses) for misses in range(len(days))]


def ring_days(days, period):
    """These days of a ring, ascending; InvalidDays if any value is none."""
    if not is_sequence(days) or len(days) == 0:
        raise InvalidDays(0)
    found = {}
    for at, day in enumerate(days):
        if not is_below(day, period) or day in found:
            raise InvalidDays(at)
        found[day] = True
    return sorted(list(found))
