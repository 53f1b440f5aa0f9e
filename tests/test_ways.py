"""[1], [2], [3], [6], [7] Ways of wheels."""

import copy
import doctest
import unittest

from turnrota.errors import NoWheel
from turnrota.rotas import Rota
from turnrota.ways import due_count, due_day, is_due, place, round_days, wheel_on

from tests.samples import first_rota, large_rotas, no_wheels, raised, small_rotas, walk

FAR = 10 ** 18

EXAMPLES = """
    >>> from turnrota.rotas import Rota
    >>> rota = Rota(2, [([0], (1, 0)), ([0, 1], (0, 1))])

    >>> from turnrota.ways import due_count, due_day, is_due, place, round_days
    >>> [place(rota, 0, day) for day in range(5)], round_days(rota, 0), [is_due(rota, 0, day) for day in range(4)]
    ([0, 1, 1, 0, 0], 4, [True, True, False, True])
    >>> due_count(rota, 0, 10 ** 18), due_day(rota, 1, 10 ** 18)
    (750000000000000000, 1333333333333333334)
"""


def long_rota():
    """A rota at the limits whose wheels have rounds of different lengths; wheel 5 stays and is never due."""
    rows = [([], (0, 1, 2, 3, 4, 5))] * 5 + [([0, 3], (1, 2, 0, 4, 3, 5)), ([4], (0, 1, 2, 3, 4, 5))]
    return Rota(6, rows)


class Examples(unittest.TestCase):
    def test_the_document(self):
        test = doctest.DocTestParser().get_doctest(EXAMPLES, {}, "DOC.md", None, None)
        self.assertEqual(doctest.DocTestRunner().run(test).failed, 0)

    def test_both_wheels_day_by_day(self):
        rota = first_rota()
        self.assertEqual([place(rota, 1, day) for day in range(5)], [1, 0, 0, 1, 1])
        self.assertEqual([is_due(rota, 1, day) for day in range(4)], [False, True, True, True])
        self.assertEqual([due_day(rota, 0, at) for at in range(4)], [0, 1, 3, 4])
        self.assertEqual([due_day(rota, 1, at) for at in range(4)], [1, 2, 3, 5])


class DayByDay(unittest.TestCase):
    """Against a plain walk through the days."""

    def compare(self, rota, days):
        counts = [0] * rota.places
        for day, (lying, due) in enumerate(walk(rota, days)):
            for spot, wheel in enumerate(lying):
                self.assertEqual(place(rota, wheel, day), spot)
                self.assertEqual(wheel_on(rota, spot, day), wheel)
            for wheel in range(rota.places):
                self.assertIs(is_due(rota, wheel, day), wheel in due)
                self.assertEqual(due_count(rota, wheel, day), counts[wheel])
                if wheel in due:
                    self.assertEqual(due_day(rota, wheel, counts[wheel]), day)
                    counts[wheel] += 1

    def test_small_rotas(self):
        for rota in small_rotas():
            self.compare(rota, 3 * 2 * len(rota) + 1)

    def test_large_rotas(self):
        for rota in large_rotas():
            self.compare(rota, 2 * 6 * len(rota) + 1)

    def test_a_little_beyond_the_limits(self):
        turn = list(range(9))
        self.compare(Rota(9, [(turn[day:day + 2], turn[1:] + turn[:1]) for day in range(8)]), 100)

    def test_wheels_are_turned_ahead_of_the_move(self):
        rota = Rota(2, [([0], (1, 0)), ([], (0, 1))])
        self.assertEqual((is_due(rota, 0, 0), is_due(rota, 1, 0)), (True, False))
        self.assertEqual((place(rota, 0, 0), place(rota, 0, 1)), (0, 1))

    def test_moves_tell_where_a_wheel_goes(self):
        rota = Rota(3, [([], (1, 2, 0))])
        self.assertEqual([place(rota, wheel, 1) for wheel in range(3)], [1, 2, 0])
        self.assertEqual([wheel_on(rota, spot, 1) for spot in range(3)], [2, 0, 1])


class Rounds(unittest.TestCase):
    def test_least_multiple_of_the_rows_with_the_wheel_back(self):
        for rota in list(small_rotas()) + list(large_rotas()):
            lying = [wheels for wheels, _ in walk(rota, 6 * len(rota) + 1)]
            for wheel in range(rota.places):
                back = [day for day in range(len(rota), len(lying), len(rota)) if lying[day][wheel] == wheel]
                self.assertEqual(round_days(rota, wheel), back[0])

    def test_no_days_but_whole_passes_count(self):
        self.assertEqual(round_days(Rota(1, [((), (0,))] * 7), 0), 7)
        self.assertEqual(round_days(Rota(2, [((), (1, 0))] * 2), 0), 2)
        self.assertEqual(round_days(Rota(2, [((), (1, 0))] * 3), 1), 6)

    def test_wheels_of_one_rota_can_have_different_ones(self):
        self.assertEqual([round_days(long_rota(), wheel) for wheel in range(6)], [21, 21, 21, 14, 14, 7])

    def test_longest_round_within_the_limits(self):
        rota = Rota(6, [([0], (1, 2, 3, 4, 5, 0))] + [([], (0, 1, 2, 3, 4, 5))] * 6)
        self.assertEqual([round_days(rota, wheel) for wheel in range(6)], [42] * 6)


class FarDays(unittest.TestCase):
    # After 60 passes each wheel of at most 6 is on its first place, whatever its round.
    def test_the_same_as_near_ones(self):
        for rota in large_rotas():
            again = 60 * len(rota)
            ahead = FAR // again * again
            for day in (0, 1, 2, 6, 13):
                for wheel in range(rota.places):
                    self.assertEqual(place(rota, wheel, ahead + day), place(rota, wheel, day))
                    self.assertEqual(wheel_on(rota, wheel, ahead + day), wheel_on(rota, wheel, day))
                    self.assertIs(is_due(rota, wheel, ahead + day), is_due(rota, wheel, day))

    def test_counts(self):
        for rota in large_rotas():
            again = 60 * len(rota)
            for wheel in range(rota.places):
                many = sum(wheel in due for _, due in walk(rota, again))
                for day in (0, 1, 5, 41):
                    self.assertEqual(due_count(rota, wheel, FAR // again * again + day),
                                     FAR // again * many + due_count(rota, wheel, day))

    def test_far_turnings(self):
        for rota in large_rotas():
            for wheel in range(rota.places):
                for at in (FAR, FAR - 1, FAR - 2, 10 ** 17 + 3):
                    day = due_day(rota, wheel, at)
                    if day is not None:
                        self.assertTrue(is_due(rota, wheel, day))
                        self.assertEqual(due_count(rota, wheel, day), at)

    def test_at_the_limit(self):
        rota = long_rota()
        self.assertEqual(FAR % 42, 22)
        self.assertEqual([place(rota, wheel, FAR) for wheel in range(6)], [0, 1, 2, 4, 3, 5])
        self.assertEqual([wheel_on(rota, spot, FAR) for spot in range(6)], [0, 1, 2, 4, 3, 5])
        self.assertEqual(due_count(rota, 5, FAR), 0)
        self.assertEqual(due_day(rota, 0, FAR), 21 * FAR + 5)


class NeverDue(unittest.TestCase):
    def test_rows_that_turn_nothing(self):
        for rota in (Rota(1, [((), (0,))]), Rota(3, [([], (1, 2, 0)), ([], (0, 2, 1))])):
            for wheel in range(rota.places):
                for number in (0, 1, 17, FAR):
                    self.assertIsNone(due_day(rota, wheel, number))
                    self.assertEqual(due_count(rota, wheel, number), 0)
                    self.assertIs(is_due(rota, wheel, number), False)

    def test_one_wheel_of_several(self):
        rota = long_rota()
        self.assertIsNone(due_day(rota, 5, 0))
        self.assertIsNone(due_day(rota, 5, FAR))
        self.assertEqual([due_day(rota, wheel, 0) for wheel in range(5)], [5, 19, 12, 5, 12])

    def test_always_due(self):
        rota = Rota(1, [((0,), (0,))])
        self.assertEqual((due_count(rota, 0, FAR), due_day(rota, 0, FAR), is_due(rota, 0, FAR)), (FAR, FAR, True))


class NoSuchWheel(unittest.TestCase):
    def asked(self, rota, value):
        """A call of each function with a value as its wheel or place."""
        calls = [(place, (rota, value, day)) for day in (0, 3, FAR)]
        calls += [(wheel_on, (rota, value, day)) for day in (0, 3, FAR)]
        calls += [(is_due, (rota, value, day)) for day in (0, 3, FAR)]
        calls += [(due_count, (rota, value, day)) for day in (0, 3, FAR)]
        calls += [(due_day, (rota, value, at)) for at in (0, 3, FAR)]
        return calls + [(round_days, (rota, value))]

    def test_just_that_value_is_in_the_error(self):
        for rota in (first_rota(), long_rota(), Rota(1, [((), (0,))])):
            for value in no_wheels(rota.places):
                for work, told in self.asked(rota, value):
                    error = raised(work, *told)
                    self.assertIs(type(error), NoWheel, (work, value))
                    self.assertIs(error.value, value)

    def test_each_wheel_and_place_is_one(self):
        for rota in (first_rota(), long_rota()):
            for value in range(rota.places):
                for work, told in self.asked(rota, value):
                    self.assertIsNone(raised(work, *told))

    def test_bools_are_none_though_equal_to_one(self):
        for value in (True, False):
            for work, told in self.asked(first_rota(), value):
                self.assertIs(raised(work, *told).value, value)


class Calling(unittest.TestCase):
    def test_parameter_names(self):
        rota = long_rota()
        self.assertEqual(place(day=6, wheel=0, rota=rota), 1)
        self.assertEqual(wheel_on(day=6, spot=1, rota=rota), 0)
        self.assertEqual(round_days(wheel=3, rota=rota), 14)
        self.assertEqual(is_due(day=5, wheel=0, rota=rota), True)
        self.assertEqual(due_count(day=6, wheel=0, rota=rota), 1)
        self.assertEqual(due_day(at=1, wheel=0, rota=rota), 26)

    def test_kinds_of_results(self):
        rota = first_rota()
        numbers = (place(rota, 0, 1), wheel_on(rota, 0, 1), round_days(rota, 0), due_count(rota, 0, 1),
                   due_day(rota, 0, 1))
        self.assertEqual([type(number) for number in numbers], [int] * 5)
        self.assertIs(type(is_due(rota, 0, 1)), bool)

    def test_the_same_call_twice_and_nothing_changes(self):
        for rota in large_rotas():
            kept = copy.deepcopy((rota.places, rota.rows))
            calls = [(work, (rota, wheel, number)) for work in (place, wheel_on, is_due, due_count, due_day)
                     for wheel in range(rota.places) for number in (0, 5, FAR)]
            first = [work(*told) for work, told in calls]
            self.assertEqual([work(*told) for work, told in reversed(calls)], first[::-1])
            self.assertEqual((rota.places, rota.rows), kept)
