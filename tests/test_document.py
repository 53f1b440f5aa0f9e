"""The document's own examples of sections 1, 4 to 11 and 15, word for word."""

import doctest
import unittest

EXAMPLES = """
    >>> from turnrota.counting import count
    >>> from turnrota.deciding import least, side, turning
    >>> from turnrota.rotas import Rota
    >>> from turnrota.seasons import Season
    >>> rota = Rota(2, [([0], (1, 0)), ([0, 1], (0, 1))])
    >>> season = Season(rota, 6, 2, [(2, 0, 1), (4, 1, 1)])
    >>> least(season), count(season), [side(season, wheel, 6) for wheel in (0, 1)], turning(season, 0, 0), turning(season, 2, 1)
    (1, 10, [None, None], 'open', 'made')

    >>> from turnrota.ways import due_count, due_day, is_due, place, round_days
    >>> [place(rota, 0, day) for day in range(5)], round_days(rota, 0), [is_due(rota, 0, day) for day in range(4)]
    ([0, 1, 1, 0, 0], 4, [True, True, False, True])
    >>> due_count(rota, 0, 10 ** 18), due_day(rota, 1, 10 ** 18)
    (750000000000000000, 1333333333333333334)

    >>> from turnrota.seasons import broken, fits, lain, sides
    >>> sides(season, [], 6), lain(season, [(5, 0)], 6), broken(season, []), fits(season, [(1, 0)]), fits(season, [(0, 0), (1, 0)])
    ((1, 0), (2, 1), (0,), True, False)

    >>> from turnrota.deciding import open_wheels, slack, stretches
    >>> stretches(season, 0), stretches(season, 1), slack(season), open_wheels(season, 4)
    (((0, 2, True), (2, 6, None)), ((0, 4, False), (4, 6, None)), 1, (0,))

    >>> from turnrota.counting import by_misses, count_missed, count_side, lot_at, number_of
    >>> by_misses(season), count_missed(season, 0, 0), count_side(season, 0, 6), lot_at(season, 0), number_of(season, [(1, 0)])
    ((0, 2, 8), 5, (4, 6), ((0, 0),), 5)

    >>> from turnrota.lying import gap, longest_lying, lying_misses, worst_gap
    >>> longest_lying(season, 0), gap(rota, 0, 0), gap(rota, 0, 1), gap(rota, 0, 3), worst_gap(rota, 10 ** 9)
    (4, 2, 3, 6, 1333333335)

    >>> from turnrota.evenness import even_days, is_best, least_gap, no_longer, ring_gap
    >>> even_days(7, 3), ring_gap([0, 1, 4], 7, 0), ring_gap([0, 1, 4], 7, 1), least_gap(7, 3, 0), least_gap(7, 3, 1), is_best([1, 3, 5], 7), no_longer([0, 3, 5], [0, 1, 2], 7)
    ((0, 3, 5), 3, 6, 3, 5, True, True)

    >>> from turnrota.asking import best_looks, left_by, results, settles
    >>> results(season, 0, 6), left_by(season, 0, 6), left_by(season, 1, 6), best_looks(season, 6), settles(season, 0, 6, 0, 5)
    ((0, 1), 6, 8, (0,), False)

    >>> from turnrota.rings import Harm, harm_of, lies_for_ever, mean_harm, worst_round
    >>> mild = Harm(rota, 0, 4, 1, 2)
    >>> lies_for_ever(mild), mean_harm(mild), harm_of(mild, 4, (1,)), harm_of(mild, 4, ())
    (False, (1, 4), (1, 4), (0, 1))

    >>> from turnrota.desk import Desk
    >>> desk = Desk()
    >>> [desk.say(word) for word in ("rota places 2 ; turn 0 move 1 0 ; turn 0 1 move 0 1", "season 6 2", "look 2 0 1", "look 4 1 1", "sides", "least", "count", "gap 0 1", "undo")]
    ['2', '9', 'fits', 'fits', '? ?', '1', '10', '3', 'undone']
"""


class Examples(unittest.TestCase):
    def test_word_for_word(self):
        test = doctest.DocTestParser().get_doctest(EXAMPLES, {}, "DOC.md", None, None)
        self.assertEqual(len(test.examples), 28)
        self.assertEqual(doctest.DocTestRunner().run(test).failed, 0)
