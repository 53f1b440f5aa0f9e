"""Counting: how many lots of misses fit, and which one has a number.

The *ways* of a wheel from a day on, if a side is up then, are a list: at each index, in how many ways
the wheel can go on with so many misses and break no look. Wheels go on whatever other ones do, so the
ways of several together are the product of theirs.
"""

from turnrota.deciding import check_possible, check_turning, if_missed
from turnrota.errors import NoFit, NoLot
from turnrota.kinds import is_below, lowest
from turnrota.seasons import fits
from turnrota.ways import check_wheel


def count(season):
    """The number of lots of misses that fit."""
    return start(season).many()


def count_missed(season, day, wheel):
    """The number of lots of misses that fit in which this turning was missed."""
    check_turning(season, day, wheel)
    return sum([count(supposed) for supposed in if_missed(season, day, wheel)])


def share(season, day, wheel):
    """The value of the lots that fit in which this turning was missed, by all that fit."""
    return lowest(count_missed(season, day, wheel), count(season))


def count_side(season, wheel, day):
    """The numbers of lots that fit with side 0, and with side 1, up at the beginning of a day."""
    check_wheel(season.rota, wheel)
    check_possible(season)
    return count(season.seen([(day, wheel, 0)])), count(season.seen([(day, wheel, 1)]))


def lot_at(season, at):
    """The lot of misses with a number among all that fit, ascending."""
    if not is_below(at, count(season)):
        raise NoLot(at)
    lot = []
    course = start(season)
    for day, wheel in season.due:
        # A lot stands ahead of all that are longer and begin with it.
        ends_here = course.many_ending()
        if at < ends_here:
            break
        missed = course.after(day, wheel, True)
        many = missed.many()
        if at - ends_here < many:
            lot.append((day, wheel))
            at -= ends_here
            course = missed
        else:
            at -= many
            course = course.after(day, wheel, False)
    return tuple(lot)


def number_of(season, misses):
    """The number of these misses among all lots that fit."""
    if not fits(season, misses):
        raise NoFit()
    number = 0
    left = len(misses)
    course = start(season)
    for day, wheel in season.due:
        if left == 0:
            break
        missed = course.after(day, wheel, True)
        if (day, wheel) in misses:
            number += course.many_ending()
            left -= 1
            course = missed
        else:
            number += missed.many()
            course = course.after(day, wheel, False)
    return number


def by_misses(season):
    """The numbers of lots that fit with 0, 1, .. misses, up to the budget."""
    numbers = start(season).numbers()
    return tuple(numbers) + (0,) * (season.budget + 1 - len(numbers))


class Course:
    """How far the due turnings of a season are decided: the sides that are up then, the ways from there on
    of each wheel, and the number of misses that are left. The tables tell all ways of each wheel."""

    def __init__(self, tables, sides, ways, left):
        self.tables = tables
        self.sides = sides
        self.ways = ways
        self.left = left

    def after(self, day, wheel, missed):
        """How it stands if the next turning is this one, and it is missed, or made."""
        sides = list(self.sides)
        ways = list(self.ways)
        if not missed:
            sides[wheel] = 1 - sides[wheel]
        ways[wheel] = self.tables[wheel][day + 1][sides[wheel]]
        return Course(self.tables, sides, ways, self.left - 1 if missed else self.left)

    def numbers(self):
        """The numbers of lots by how many more turnings are missed, as far as misses are left."""
        together = [1]
        for ways in self.ways:
            together = product_of(together, ways, self.left)
        return together

    def many(self):
        """The number of lots that fit."""
        return sum(self.numbers())

    def many_ending(self):
        """1 if the lot fits in which no further turning is missed, else 0."""
        return 1 if all([ways[0] == 1 for ways in self.ways]) else 0


def start(season):
    """The course of a season of which nothing is decided."""
    tables = [ways_of(season, wheel) for wheel in range(season.wheels)]
    most = min(season.budget, len(season.due))
    return Course(tables, [0] * season.wheels, [table[0][0] for table in tables], most)


def ways_of(season, wheel):
    """For each day, from 0 to the end, and each side of a wheel its ways from then on."""
    due = {day: True for day, turned in season.due if turned == wheel}
    gainsaid = {(day, 1 - up): True for day, seen, up in season.looks if seen == wheel}
    ways = ([1], [1])
    table = []
    for day in range(season.days, -1, -1):
        if day in due:
            ways = (grown(ways[1], ways[0], season.budget), grown(ways[0], ways[1], season.budget))
        ways = tuple([[0] * len(ways[up]) if (day, up) in gainsaid else ways[up] for up in (0, 1)])
        table.append(ways)
    return table[::-1]


def grown(made, missed, most):
    """The ways ahead of a turning, up to so many misses, by those behind it if it is made, and if it is missed."""
    return [one + other for one, other in zip(made + [0], [0] + missed)][:most + 1]


def product_of(ways, others, most):
    """The ways of both together, up to so many misses."""
    together = [0] * min(len(ways) + len(others) - 1, most + 1)
    for misses, many in enumerate(ways[:len(together)]):
        for further, others_many in enumerate(others[:len(together) - misses]):
            together[misses + further] += many * others_many
    return together
