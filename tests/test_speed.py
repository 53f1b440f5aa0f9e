"""Answers that are asked for very often must come soon: the limits here are wide, for machines that are busy."""

import time
import unittest

from turnrota.counting import count, count_missed, lot_at, number_of, share
from turnrota.lying import longest_lying
from turnrota.rotas import Rota
from turnrota.seasons import Season

ROWS = [((0, 2), (1, 2, 3, 4, 0)), ((1, 3, 4), (1, 0, 2, 4, 3)), ((0, 1), (0, 1, 2, 3, 4)), ((4,), (4, 3, 2, 1, 0)),
        ((2, 3), (2, 0, 1, 3, 4))]
LOOKS = [(30, 0, 1), (12, 1, 0), (20, 3, 1)]
SIX = Rota(6, [([0, 1, 2, 3, 4, 5], (0, 1, 2, 3, 4, 5))])


class Speed(unittest.TestCase):
    def check(self, seconds, work):
        begin = time.perf_counter()
        told = work()
        self.assertLess(time.perf_counter() - begin, seconds)
        return told

    def test_longest_lying(self):
        season = Season(Rota(5, ROWS), 30, 4, LOOKS)
        told = self.check(1, lambda: [longest_lying(season, wheel) for _ in range(300) for wheel in range(5)])
        self.assertEqual(told[:5], [13, 20, 7, 11, 13])

    def test_counts_of_turnings(self):
        season = Season(Rota(5, ROWS), 40, 5, LOOKS)
        pairs = season.due[:10] * 100
        self.check(1, lambda: [(count_missed(season, *pair), share(season, *pair)) for pair in pairs])

    def test_lots_by_their_numbers(self):
        season = Season(Rota(5, ROWS), 40, 5, LOOKS)
        middle = count(season) // 2
        self.check(1, lambda: [number_of(season, lot_at(season, middle)) for _ in range(300)])

    def test_great_seasons(self):
        for looks in ([], [(60, wheel, 0) for wheel in range(6)], [(5 * at, at % 6, at % 2) for at in range(1, 13)]):
            season = Season(SIX, 60, 60, looks)
            middle = count(season) // 2
            told = self.check(2, lambda: [number_of(season, lot_at(season, middle)) for _ in range(12)])
            self.assertEqual(told, [middle] * 12)
