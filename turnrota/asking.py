"""Asking: what a further look can show, and how much it tells."""

from turnrota.counting import count_side
from turnrota.deciding import possible_sides, side
from turnrota.ways import check_wheel


def results(season, wheel, day):
    """The sides that a further look at a wheel can show at the beginning of a day, ascending."""
    return possible_sides(season, wheel, day)


def left_by(season, wheel, day):
    """The greatest number of lots of misses that fit behind such a look."""
    return max(count_side(season, wheel, day))


def best_looks(season, day):
    """The wheels for which `left_by` is least."""
    left = [left_by(season, wheel, day) for wheel in range(season.wheels)]
    return tuple([wheel for wheel, many in enumerate(left) if many == min(left)])


def settles(season, wheel, day, other, then):
    """Whether the side of the other wheel on the day `then` is sure, whatever a look at a wheel on a day shows."""
    check_wheel(season.rota, wheel)
    check_wheel(season.rota, other)
    shown = [season.seen([(day, wheel, up)]) for up in possible_sides(season, wheel, day)]
    return all([side(seen, other, then) is not None for seen in shown])
