"""[24] Comparing, held against gaps for many numbers of misses."""

import copy
import unittest
from itertools import permutations, product

from turnrota.comparing import even_rota, fair, never_staler, shifted, staler
from turnrota.errors import InvalidRota
from turnrota.lying import gap, worst_gap
from turnrota.rotas import Rota
from turnrota.ways import is_due, place, round_days

from tests.samples import first_rota, large_rotas, raised, small_rotas

IDLE = Rota(2, [((), (1, 0))])
HALF = Rota(2, [((0,), (0, 1))])


def longer(one, other):
    """Whether a gap is longer than another one; None is longer than each number."""
    return other is not None and (one is None or one > other)


def least_longer(p, q, many):
    """The least number of misses below so many with which a wheel's gap by p is longer, and these wheels."""
    for misses in range(many):
        wheels = [wheel for wheel in range(p.places) if longer(gap(p, wheel, misses), gap(q, wheel, misses))]
        if wheels:
            return misses, wheels
    return None


class AgainstGaps(unittest.TestCase):
    def check(self, p, q, many):
        told, first = staler(p, q), least_longer(p, q, many)
        self.assertIs(never_staler(p, q), first is None, (str(p), str(q)))
        if first is None:
            self.assertIsNone(told)
        else:
            self.assertEqual(told[1], first[0], (str(p), str(q)))
            self.assertIn(told[0], first[1])
            self.assertEqual([type(part) for part in (told, *told)], [tuple, int, int])
        return first

    def test_small_rotas_either_way_about(self):
        rotas = list(small_rotas())
        seen = set()
        for places in (1, 2, 3):
            alike = [rota for rota in rotas if rota.places == places][::7 if places > 1 else 1]
            for p, q in product(alike, alike):
                first = self.check(p, q, 20)
                seen.add(None if first is None else first[0])
        self.assertEqual(seen, {None, 0})

    def test_one_place_either_way_about(self):
        rotas = [Rota(1, [([0] if due else [], [0]) for due in bits])
                 for many in range(1, 8) for bits in product((0, 1), repeat=many)]
        seen = set()
        for p, q in product(rotas[::5], rotas[::3]):
            first = self.check(p, q, 45)
            seen.add(None if first is None else first[0])
        self.assertLessEqual({None, 0, 1, 2, 3}, seen)

    def test_large_rotas_either_way_about(self):
        rotas = list(large_rotas())
        seen = set()
        for places in range(1, 7):
            alike = [rota for rota in rotas if rota.places == places]
            for p, q in product(alike, alike):
                first = self.check(p, q, 60)
                seen.add(None if first is None else first[0])
        self.assertLessEqual({None, 0}, seen)

    def test_itself(self):
        for rota in [*small_rotas(), *large_rotas()]:
            self.assertEqual((staler(rota, rota), never_staler(rota, rota)), (None, True))

    def test_wheels_that_are_never_due(self):
        self.assertEqual((never_staler(IDLE, IDLE), staler(IDLE, IDLE)), (True, None))
        self.assertEqual((never_staler(HALF, IDLE), staler(HALF, IDLE)), (True, None))
        self.assertEqual((never_staler(IDLE, HALF), staler(IDLE, HALF)), (False, (0, 0)))
        self.assertEqual(staler(HALF, first_rota()), (1, 0))
        self.assertEqual(staler(first_rota(), HALF), (0, 0))

    def test_longer_with_many_misses_only(self):
        # 5 turnings in 6 days and 6 in 7 both have a gap of two days; those come more often in the first case.
        slow, quick = Rota(1, [([0], [0])] * 5 + [([], [0])]), Rota(1, [([0], [0])] * 6 + [([], [0])])
        self.assertEqual(staler(slow, quick), (0, 5))
        self.assertEqual(staler(quick, slow), None)

    def test_rounds_of_many_days(self):
        # 34 turnings in 35 days against 41 in 42: the 35th miss makes the first gap one day longer.
        every = list(range(6))
        quick = Rota(6, [([1, 2, 3, 4, 5], (1, 2, 3, 4, 5, 0))] + [(every, (0, 1, 2, 3, 4, 5))] * 6)
        slow = Rota(6, [([1, 2, 3, 4, 5], (1, 2, 3, 4, 0, 5))] + [(every, (0, 1, 2, 3, 4, 5))] * 6)
        self.assertEqual(self.check(slow, quick, 60)[0], 34)
        # The wheel that stays on its place is turned each day.
        self.assertEqual((self.check(quick, slow, 60)[0], staler(quick, slow)), (0, (5, 0)))
        wide = Rota(6, [([0, 1, 2, 3, 4], (1, 2, 3, 4, 5, 0))] * 6 + [(every, (1, 2, 3, 4, 5, 0))])
        self.check(even_rota(6, 5), wide, 200)
        self.check(wide, even_rota(6, 5), 200)

    def test_unlike_sizes(self):
        for p, q in ((first_rota(), Rota(1, [([0], [0])])), (Rota(1, [([0], [0])]), first_rota()),
                     (even_rota(6, 1), even_rota(5, 1))):
            for work in (never_staler, staler):
                error = raised(work, p, q)
                self.assertIs(type(error), InvalidRota)
                self.assertEqual(error.word, "places")

    def test_unlike_numbers_of_rows(self):
        p = Rota(2, [([0, 1], (0, 1))])
        q = Rota(2, [([0, 1], (1, 0))] * 5)
        self.assertEqual((staler(p, q), staler(q, p)), (None, None))


class Fair(unittest.TestCase):
    def test_against_gaps(self):
        told = set()
        for rota in [*small_rotas(), *large_rotas()]:
            gaps = [[gap(rota, wheel, misses) for misses in range(50)] for wheel in range(rota.places)]
            self.assertIs(fair(rota), all(each == gaps[0] for each in gaps), str(rota))
            told.add((fair(rota), None in gaps[0]))
        self.assertEqual(told, {(True, False), (True, True), (False, True), (False, False)})

    def test_by_hand(self):
        self.assertIs(fair(first_rota()), True)
        self.assertIs(fair(IDLE), True)
        self.assertIs(fair(HALF), False)
        self.assertIs(fair(Rota(1, [([0], [0])])), True)
        # The same least gaps, but more of them one behind the other.
        rows = [([0, 1], (0, 1)), ([1], (0, 1)), ([0, 1], (0, 1)), ([0], (0, 1)), ([0, 1], (0, 1)), ([1], (0, 1))]
        self.assertIs(fair(Rota(2, rows)), False)


class EvenRotas(unittest.TestCase):
    def test_all_sizes(self):
        for places in range(1, 7):
            for turned in range(1, places + 1):
                rota = even_rota(places, turned)
                moves = tuple((spot + turned) % places for spot in range(places))
                self.assertEqual(rota, Rota(places, [(tuple(range(turned)), moves)]))
                self.assertEqual(len(rota), 1)
                self.assertIs(fair(rota), True)
                for misses in (0, 1, 2, 5, 10 ** 9):
                    self.assertEqual(worst_gap(rota, misses), -(-(misses + 1) * places // turned))

    def test_no_rota_with_one_or_two_rows_is_better(self):
        for places in (1, 2, 3):
            for turned in range(1, places + 1):
                least = [worst_gap(even_rota(places, turned), misses) for misses in range(8)]
                rows = [([spot for spot in range(places) if bits[spot]], moves)
                        for bits in product((0, 1), repeat=places) if sum(bits) <= turned
                        for moves in permutations(range(places))]
                for many in (1, 2 if places < 3 else 1):
                    for chosen in product(rows, repeat=many):
                        rota = Rota(places, list(chosen))
                        for misses in range(8):
                            self.assertFalse(longer(least[misses], worst_gap(rota, misses)))

    def test_beyond_the_limits(self):
        rota = even_rota(9, 4)
        self.assertEqual((fair(rota), worst_gap(rota, 0), worst_gap(rota, 3)), (True, 3, 9))


class Shifted(unittest.TestCase):
    def test_rows(self):
        for rota in large_rotas():
            many = len(rota)
            for days in (0, 1, 2, 3, 7, 10 ** 18, 10 ** 18 + 1, 10 ** 18 - 1):
                told = shifted(rota, days)
                self.assertEqual(told.places, rota.places)
                self.assertEqual(told.rows, tuple(rota.rows[(days + row) % many] for row in range(many)))
            for days in (0, many, 3 * many, 10 ** 18 * many):
                self.assertEqual(shifted(rota, days), rota)
            self.assertEqual(shifted(shifted(rota, 2), 3), shifted(rota, 5))

    def test_wheels_that_lie_where_they_lie_do_the_same_later(self):
        for rota in large_rotas():
            for days in (1, 3, 10 ** 18):
                told = shifted(rota, days)
                for wheel in range(rota.places):
                    spot = place(rota, wheel, days)
                    for day in range(round_days(rota, wheel)):
                        self.assertEqual(place(told, spot, day), place(rota, wheel, days + day))
                        self.assertIs(is_due(told, spot, day), is_due(rota, wheel, days + day))


class Calling(unittest.TestCase):
    def test_parameter_names(self):
        self.assertIs(never_staler(q=HALF, p=IDLE), False)
        self.assertEqual(staler(q=HALF, p=IDLE), (0, 0))
        self.assertIs(fair(rota=HALF), False)
        self.assertEqual(even_rota(turned=1, places=2), Rota(2, [([0], (1, 0))]))
        self.assertEqual(shifted(days=1, rota=first_rota()), Rota(2, [([0, 1], (0, 1)), ([0], (1, 0))]))

    def test_the_same_call_twice_and_nothing_changes(self):
        p, q = first_rota(), Rota(2, [([0, 1], (1, 0)), ([], (0, 1))])
        kept = copy.deepcopy((p.rows, q.rows))
        calls = [(never_staler, (p, q)), (staler, (p, q)), (staler, (q, p)), (fair, (p,)), (shifted, (p, 3)),
                 (even_rota, (5, 2))]
        first = [work(*told) for work, told in calls]
        self.assertEqual([work(*told) for work, told in reversed(calls)], first[::-1])
        self.assertEqual((p.rows, q.rows), kept)
