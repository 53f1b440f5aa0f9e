"""Counting: how many lots of misses fit, and which one has a number.

The looks part the turnings of the season into closed stretches, of each of which an odd or an even number was
missed, and free turnings behind the last looks. A closed stretch has a miss if it is odd, and pairs of misses
beyond it. So its *ways* are a list: at each index, how many lots of its turnings have so many pairs; the ways of
several stretches together are the product of theirs. The *sums* of the free turnings are a list, too: at each
index, how many lots of them there are of at most so many.
"""

from math import comb

from turnrota.deciding import check_possible, check_turning, parts
from turnrota.errors import NoFit, NoLot
from turnrota.kinds import is_below, lowest
from turnrota.seasons import fits
from turnrota.ways import check_wheel


def count(season):
    """The number of lots of misses that fit."""
    return start(season).many()


def count_missed(season, day, wheel):
    """The number of lots of misses that fit in which this turning was missed."""
    check_turning(season, day, wheel)
    missed, _ = start(season).branches((day, wheel))
    return missed.many()


def share(season, day, wheel):
    """The value of the lots that fit in which this turning was missed, by all that fit."""
    check_turning(season, day, wheel)
    course = start(season)
    missed, _ = course.branches((day, wheel))
    return lowest(missed.many(), course.many())


def count_side(season, wheel, day):
    """The numbers of lots that fit with side 0, and with side 1, up at the beginning of a day."""
    check_wheel(season.rota, wheel)
    check_possible(season)
    return count(season.seen([(day, wheel, 0)])), count(season.seen([(day, wheel, 1)]))


def lot_at(season, at):
    """The lot of misses with a number among all that fit, ascending."""
    course = start(season)
    if not is_below(at, course.many()):
        raise NoLot(at)
    lot = []
    for pair in season.due:
        # A lot stands ahead of all that are longer and begin with it.
        ends_here = course.many_ending()
        if at < ends_here:
            break
        missed, made = course.branches(pair)
        many = missed.many()
        if at - ends_here < many:
            lot.append(pair)
            at -= ends_here
            course = missed
        else:
            at -= many
            course = made
    return tuple(lot)


def number_of(season, misses):
    """The number of these misses among all lots that fit."""
    if not fits(season, misses):
        raise NoFit()
    number = 0
    left = len(misses)
    course = start(season)
    for pair in season.due:
        if left == 0:
            break
        missed, made = course.branches(pair)
        if pair in misses:
            number += course.many_ending()
            left -= 1
            course = missed
        else:
            number += missed.many()
            course = made
    return number


def by_misses(season):
    """The numbers of lots that fit with 0, 1, .. misses, up to the budget."""
    course = start(season)
    within = [course.within(most) for most in range(course.left + 1)]
    numbers = [many - with_fewer for many, with_fewer in zip(within, [0] + within)]
    return tuple(numbers) + (0,) * (season.budget + 1 - len(numbers))


class Course:
    """How far the turnings of a season are decided: the closed stretches (turnings, odd), as far as they are not,
    with the first of their ways together; the sums of the free turnings; and how many misses are left.

    `stretch_of` has the index of its stretch for each turning (day, wheel) that is not free.
    """

    def __init__(self, stretch_of, stretches, ways, sums, left):
        self.stretch_of = stretch_of
        self.stretches = stretches
        self.ways = ways
        self.sums = sums
        self.left = left

    def branches(self, pair):
        """How it stands if a turning that is not decided yet is missed, and if it is made."""
        if pair in self.stretch_of:
            at = self.stretch_of[pair]
            others = quotient_of(self.ways, own_ways(self.stretches[at]))
            return self.branch(at, others, True), self.branch(at, others, False)
        sums = sums_without_one(self.sums)
        return (Course(self.stretch_of, self.stretches, self.ways, sums, self.left - 1),
                Course(self.stretch_of, self.stretches, self.ways, sums, self.left))

    def branch(self, at, others, missed):
        """How it stands if a turning of a closed stretch is missed, or made, by the ways of the other stretches."""
        turnings, odd = self.stretches[at]
        stretch = (turnings - 1, odd != missed)
        stretches = self.stretches[:at] + [stretch] + self.stretches[at + 1:]
        left = self.left - 1 if missed else self.left
        ways = product_of(others, own_ways(stretch), many_ways(stretches, left))
        return Course(self.stretch_of, stretches, ways, self.sums, left)

    def within(self, most):
        """The number of lots with at most so many further misses."""
        spare = most - least_need(self.stretches)
        return sum([many * self.sums[spare - 2 * pairs] for pairs, many in enumerate(self.ways) if 2 * pairs <= spare])

    def many(self):
        """The number of lots that fit."""
        return self.within(self.left)

    def many_ending(self):
        """1 if the lot fits in which no further turning is missed, else 0."""
        return 1 if least_need(self.stretches) == 0 else 0


def start(season):
    """The course of a season of which nothing is decided."""
    stretch_of, stretches, free = {}, [], 0
    for wheel in range(season.wheels):
        for _, _, odd, days in parts(season, wheel):
            if odd is None:
                free += len(days)
            else:
                for day in days:
                    stretch_of[(day, wheel)] = len(stretches)
                stretches.append((len(days), odd))
    left = min(season.budget, len(season.due))
    ways = [1]
    for stretch in stretches:
        ways = product_of(ways, own_ways(stretch), many_ways(stretches, left))
    return Course(stretch_of, stretches, ways, first_sums(free, left), left)


def least_need(stretches):
    """How many misses closed stretches need."""
    return sum([odd for _, odd in stretches])


def many_ways(stretches, left):
    """How many ways of closed stretches together matter if so many misses are left."""
    return max(0, (left - least_need(stretches)) // 2 + 1)


def own_ways(stretch):
    """The ways of one closed stretch."""
    turnings, odd = stretch
    return [comb(turnings, misses) for misses in range(1 if odd else 0, turnings + 1, 2)]


def first_sums(free, most):
    """For 0, 1, .. up to so many misses the number of lots of at most so many of the free turnings."""
    sums, many = [], 0
    for misses in range(most + 1):
        many += comb(free, misses)
        sums.append(many)
    return sums


def sums_without_one(sums):
    """The sums of one free turning less."""
    # What is beyond them are the lots with this turning, which have one miss fewer among the other ones.
    found, with_fewer = [], 0
    for many in sums:
        with_fewer = many - with_fewer
        found.append(with_fewer)
    return found


def product_of(ways, others, many):
    """So many first ways of both together."""
    together = [0] * many
    for pairs, ways_so in enumerate(ways[:many]):
        for further, others_so in enumerate(others[:many - pairs]):
            together[pairs + further] += ways_so * others_so
    return together


def quotient_of(ways, own):
    """The ways of all stretches but one, by those of all together and its own: `product_of` undone."""
    others = []
    for pairs, many in enumerate(ways):
        spent = sum([own[own_pairs] * others[pairs - own_pairs]
                     for own_pairs in range(1, min(pairs, len(own) - 1) + 1)])
        others.append((many - spent) // own[0])
    return others
