"""[1], [2], [3], [5] Rotas, but for their texts."""

import copy
import unittest
from itertools import permutations

from turnrota.errors import InvalidRota
from turnrota.rotas import Rota

from tests.samples import first_rota, large_rotas, nested, odd_values, raised, small_rotas


class Building(unittest.TestCase):
    def test_attributes(self):
        rota = Rota(3, [([2, 0], [1, 2, 0]), ((), (0, 1, 2))])
        self.assertEqual(rota.places, 3)
        self.assertEqual(rota.rows, (((0, 2), (1, 2, 0)), ((), (0, 1, 2))))

    def test_attributes_are_tuples_throughout(self):
        for rota in (Rota(2, [([1], [0, 1])]), Rota(2, (((1,), (0, 1)),))):
            self.assertIs(type(rota.places), int)
            self.assertIs(type(rota.rows), tuple)
            for row in rota.rows:
                self.assertEqual([type(row), type(row[0]), type(row[1])], [tuple] * 3)

    def test_turned_places_are_a_lot_in_any_order(self):
        for turned in permutations(range(4)):
            rota = Rota(4, [(list(turned), (3, 2, 1, 0))])
            self.assertEqual(rota.rows, (((0, 1, 2, 3), (3, 2, 1, 0)),))

    def test_moves_keep_their_order(self):
        for moves in permutations(range(4)):
            self.assertEqual(Rota(4, [((), moves)]).rows[0][1], moves)

    def test_length_is_the_number_of_rows(self):
        for many in range(1, 8):
            self.assertEqual(len(Rota(1, [([0], [0])] * many)), many)

    def test_lists_and_tuples_are_sequences(self):
        rotas = [Rota(2, rows([(turned([1]), moves([1, 0]))]))
                 for rows in (list, tuple) for turned in (list, tuple) for moves in (list, tuple)]
        for rota in rotas:
            self.assertEqual(rota.rows, (((1,), (1, 0)),))

    def test_parameter_names(self):
        rota = Rota(rows=[([0], (0,))], places=1)
        self.assertEqual((rota.places, rota.rows), (1, (((0,), (0,)),)))

    def test_least_rotas(self):
        self.assertEqual(Rota(1, [((), (0,))]).rows, (((), (0,)),))
        self.assertEqual(Rota(1, [((0,), (0,))]).rows, (((0,), (0,)),))

    def test_limits_and_a_little_beyond(self):
        for places, many in ((6, 7), (7, 8), (12, 10)):
            turn = tuple(range(places))
            rota = Rota(places, [(turn[day:], turn[1:] + turn[:1]) for day in range(many)])
            self.assertEqual((rota.places, len(rota)), (places, many))
            self.assertEqual(rota.rows[0], (turn, turn[1:] + turn[:1]))


class WrongArguments(unittest.TestCase):
    def refuse(self, word, places, rows):
        error = raised(Rota, places, rows)
        self.assertEqual((type(error), getattr(error, "word", None)), (InvalidRota, word), (places, rows))

    def test_places(self):
        for value in odd_values() + [0, -1, -(10 ** 18)]:
            self.refuse("places", value, [([0], (0,))])

    def test_true_is_no_number_of_places(self):
        self.refuse("places", True, [([0], (0,))])

    def test_the_first_wrong_argument_is_named(self):
        for value in odd_values() + [0, -1]:
            for rows in odd_values() + [0, 1]:
                self.refuse("places", value, rows)
                self.refuse("rows", 1, rows)

    def test_rows_that_are_no_sequence_or_empty(self):
        for rows in odd_values() + [0, 1, "ab", {0: 1}, {((0,), (0,))}]:
            for places in (1, 2, 6):
                self.refuse("rows", places, rows)
        self.refuse("rows", 1, {((0,), (0,)): 1})
        self.refuse("rows", 1, iter([((0,), (0,))]))

    def test_rows_that_are_no_pairs(self):
        for row in odd_values() + [0, [[0], [0]], [(0,), (0,)], ((0,),), ((0,), (0,), (0,)), ((0,), (0,), None)]:
            self.refuse("rows", 1, [row])
            self.refuse("rows", 1, ([([0], (0,)), row]))

    def test_turned_of_any_value(self):
        right = ["[]", "()", "[0]", "(0,)"]
        for turned in odd_values() + [0, 1, "0", {0}, {0: 0}, range(1)]:
            if repr(turned) not in right:
                self.refuse("rows", 2, [(turned, (1, 0))])
                self.refuse("rows", 2, (([0], (0, 1)), (turned, [1, 0])))

    def test_turned_places_that_are_none(self):
        for spot in odd_values() + [-1, -2, 2, 3, 10 ** 18]:
            self.refuse("rows", 2, [([spot], (0, 1))])
            self.refuse("rows", 2, [((0, spot), (0, 1))])

    def test_turned_places_twice(self):
        for turned in ([0, 0], (1, 1), [0, 1, 0], (1, 0, 1)):
            self.refuse("rows", 2, [(turned, (0, 1))])

    def test_bools_among_places(self):
        for turned in ([True], (False,), [0, True], [False, 1]):
            self.refuse("rows", 2, [(turned, (0, 1))])
        for moves in ((False, True), [0, True], (False, 1), (1, False), [True, 0]):
            self.refuse("rows", 2, [([0], moves)])
        self.refuse("rows", 1, [((), (False,))])

    def test_moves_of_any_value(self):
        for moves in odd_values() + [0, 1, "01", {0: 1, 1: 0}, {0, 1}, range(2)]:
            self.refuse("rows", 2, [([0], moves)])

    def test_moves_to_what_is_no_place(self):
        for spot in odd_values() + [-1, 2, 10 ** 18]:
            self.refuse("rows", 2, [([0], (0, spot))])
            self.refuse("rows", 2, [([0], [spot, 1])])

    def test_moves_that_are_too_few_too_many_or_alike(self):
        for moves in ((), (0,), (1,), (0, 0), (1, 1), (0, 1, 2), (0, 1, 0), (1, 0, 0)):
            self.refuse("rows", 2, [([0], moves)])
        self.refuse("rows", 3, [([0], (0, 1))])
        self.refuse("rows", 1, [([0], (0, 1))])

    def test_only_one_of_many_rows_is_wrong(self):
        right = ([0], (1, 0))
        for wrong in (([2], (1, 0)), ([0], (1, 1)), [[0], (1, 0)], ([0, 0], (1, 0)), ()):
            for at in range(7):
                self.refuse("rows", 2, [right] * at + [wrong] + [right] * (6 - at))

    def test_many_places_are_no_reason_to_wait(self):
        self.refuse("rows", 10 ** 18, [([0], (1, 0))])

    def test_deep_values(self):
        for depth in range(9):
            for inner in (0, True, None, "0", [], ()):
                self.refuse("rows", 6, [([nested(depth, inner)], (0, 1))])


class Unchanged(unittest.TestCase):
    def test_later_changes_to_the_rows_do_nothing(self):
        turned, moves = [1, 0], [1, 0]
        rows = [(turned, moves)]
        rota = Rota(2, rows)
        twin, text = Rota(2, [([0, 1], (1, 0))]), str(rota)
        turned.clear()
        moves[:] = [0, 1]
        rows.append(7)
        self.assertEqual((rota.rows, len(rota), str(rota)), ((((0, 1), (1, 0)),), 1, text))
        self.assertEqual(rota, twin)

    def test_arguments_are_not_changed(self):
        rows = [([1, 0], [1, 0]), ([], [0, 1])]
        kept = copy.deepcopy(rows)
        Rota(2, rows)
        self.assertEqual(rows, kept)
        raised(Rota, 2, rows + [([1, 1], [1, 0])])
        self.assertEqual(rows, kept)

    def test_the_same_call_twice(self):
        rows = [([1, 0], [1, 0])]
        self.assertEqual(Rota(2, rows), Rota(2, rows))
        rota = first_rota()
        self.assertEqual((str(rota), len(rota), rota.rows), (str(rota), len(rota), rota.rows))


class Iterating(unittest.TestCase):
    def test_rotas_are_not_iterable(self):
        for work in (iter, list, tuple, sorted, enumerate, reversed):
            with self.assertRaises(TypeError):
                work(first_rota())
        with self.assertRaises(TypeError):
            0 in first_rota()
        with self.assertRaises(TypeError):
            _, _ = first_rota()
        with self.assertRaises(TypeError):
            first_rota()[0]


class Equality(unittest.TestCase):
    def test_equal_just_if_the_texts_are(self):
        rotas = list(small_rotas())[:120] + list(large_rotas())
        for one in rotas:
            for other in rotas:
                self.assertIs(one == other, str(one) == str(other))
                self.assertIs(one != other, str(one) != str(other))

    def test_order_of_the_turned_places_and_kind_of_sequence_do_not_matter(self):
        self.assertEqual(Rota(3, [([2, 0], (0, 1, 2))]), Rota(3, ((((0, 2), [0, 1, 2])),)))

    def test_each_part_matters(self):
        rota = Rota(3, [([0], (1, 0, 2)), ([], (0, 1, 2))])
        others = (Rota(3, [([1], (1, 0, 2)), ([], (0, 1, 2))]), Rota(3, [([0], (0, 1, 2)), ([], (0, 1, 2))]),
                  Rota(3, [([], (0, 1, 2)), ([0], (1, 0, 2))]), Rota(3, [([0], (1, 0, 2))]),
                  Rota(3, [([0], (1, 0, 2)), ([], (0, 1, 2)), ([], (0, 1, 2))]),
                  Rota(4, [([0], (1, 0, 2, 3)), ([], (0, 1, 2, 3))]))
        for other in others:
            self.assertFalse(rota == other, str(other))
            self.assertTrue(rota != other, str(other))

    def test_rows_done_twice_are_another_rota(self):
        self.assertNotEqual(Rota(1, [([0], [0])]), Rota(1, [([0], [0])] * 2))

    def test_equal_to_nothing_of_another_kind(self):
        rota = first_rota()
        values = [value for value in odd_values() if not isinstance(value, Rota)]
        for value in values + [0, 2, str(rota), rota.rows, (rota.places, rota.rows), [rota], (rota,), Rota, object()]:
            self.assertIs(rota == value, False, value)
            self.assertIs(value == rota, False, value)
            self.assertIs(rota != value, True, value)
