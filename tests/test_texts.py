"""[3], [5] Rotas as texts."""

import unittest

from turnrota.errors import InvalidRota, InvalidText
from turnrota.rotas import Rota

from tests.samples import first_rota, large_rotas, odd_values, raised, small_rotas

FIRST = "places 2\nturn 0 move 1 0\nturn 0 1 move 0 1"


class Writing(unittest.TestCase):
    def test_the_first_rota(self):
        self.assertEqual(str(first_rota()), FIRST)

    def test_turned_places_are_ascending(self):
        self.assertEqual(str(Rota(3, [([2, 0], (2, 0, 1))])), "places 3\nturn 0 2 move 2 0 1")

    def test_no_turned_place(self):
        self.assertEqual(str(Rota(1, [((), (0,)), ([0], [0])])), "places 1\nturn none move 0\nturn 0 move 0")

    def test_numbers_with_two_digits(self):
        moves = tuple(range(11))
        text = "places 11\nturn 9 10 move 0 1 2 3 4 5 6 7 8 9 10"
        self.assertEqual(str(Rota(11, [([10, 9], moves)])), text)
        self.assertEqual(Rota.read(text), Rota(11, [((9, 10), moves)]))


class ThereAndBack(unittest.TestCase):
    def test_all_small_and_some_large_rotas(self):
        for rota in list(small_rotas()) + list(large_rotas()):
            again = Rota.read(str(rota))
            self.assertIs(type(again), Rota)
            self.assertEqual((again.places, again.rows), (rota.places, rota.rows))
            self.assertEqual(again, rota)
            self.assertEqual(str(again), str(rota))

    def test_turned_places_in_any_order(self):
        for words in ("0 1 2", "2 1 0", "1 2 0", "2 0 1"):
            rota = Rota.read(f"places 3\nturn {words} move 0 2 1")
            self.assertEqual(rota.rows, (((0, 1, 2), (0, 2, 1)),))

    def test_parameter_name(self):
        self.assertEqual(Rota.read(text=FIRST), first_rota())

    def test_on_an_object_too(self):
        self.assertEqual(Rota(1, [((), (0,))]).read(FIRST), first_rota())

    def test_attributes_of_a_rota_that_was_read(self):
        rota = Rota.read(FIRST)
        self.assertEqual((rota.places, rota.rows, len(rota)), (2, (((0,), (1, 0)), ((0, 1), (0, 1))), 2))
        self.assertEqual([type(rota.rows), type(rota.rows[0]), type(rota.rows[0][0])], [tuple] * 3)

    def test_none_is_no_turned_place(self):
        self.assertEqual(Rota.read("places 2\nturn none move 1 0").rows, (((), (1, 0)),))

    def test_two_digits(self):
        spots = " ".join(str(spot) for spot in range(12))
        rota = Rota.read(f"places 12\nturn 11 10 move {spots}")
        self.assertEqual(rota.rows, (((10, 11), tuple(range(12))),))


class WrongForm(unittest.TestCase):
    def refuse(self, at, text):
        error = raised(Rota.read, text)
        self.assertEqual((type(error), getattr(error, "at", None)), (InvalidText, at), text)
        self.assertIs(type(error.at), int)

    def test_what_is_no_string(self):
        for value in [value for value in odd_values() if not isinstance(value, str)] + [0, 7, b"places 1"]:
            self.refuse(0, value)

    def test_empty_text_has_one_line(self):
        self.refuse(0, "")

    def test_empty_lines(self):
        self.refuse(0, "\n" + FIRST)
        self.refuse(3, FIRST + "\n")
        self.refuse(3, FIRST + "\n\n")
        self.refuse(1, "places 1\n")
        self.refuse(1, "places 2\n\nturn 0 move 1 0")

    def test_first_line(self):
        for line in ("place 2", "Places 2", "places", "places ", "places  2", " places 2", "places 2 ", "places 2 2",
                     "2 places", "2", "places none", "places -1", "places +2", "places 2.", "places two", "places 02",
                     "places 00", "places 002", "places 100", "places 1000", "places 1_0", "turn 0 move 1 0",
                     "places2", "places\t2", "places 2\r", "places 0x1"):
            self.refuse(0, line + "\nturn 0 move 1 0")
            self.refuse(0, line)
            self.refuse(0, line + "\nturn")

    def test_lines_of_rows(self):
        for line in ("turn", "move", "turn move", "turn none", "turn none move", "turn 0", "turn 0 1", "turn 0 move",
                     "turn move 1 0", "move 1 0", "move 1 0 turn 0", "turn 0 1 0", "turn 0 move 1 0 move 1 0",
                     "turn 0 move move 1 0", "turn turn 0 move 1 0", "turn 0 turn move 1 0", "turn 0 move none",
                     "turn 0 none move 1 0", "turn none 0 move 1 0", "turn none none move 1 0", "turn None move 1 0",
                     "turn 0 move 1 none", "turn 0 to move 1 0", "turns 0 move 1 0", "turn 0 moves 1 0",
                     "Turn 0 move 1 0", "turn 0 MOVE 1 0", "turn a move 1 0", "turn 0 move b 0", "turn 0 move 1 b",
                     "turn -1 move 1 0", "turn 0 move -1 0", "turn +0 move 1 0", "turn 0 move 1, 0", "places 2",
                     "0 move 1 0", "turn 0 1 move", "turn 0move 1 0", "turn0 move 1 0", "none move 1 0", "none"):
            self.refuse(1, f"places 2\n{line}")
            self.refuse(2, f"places 2\nturn 0 move 1 0\n{line}\nturn 0 move 1 0")

    def test_leading_zeros_and_long_numbers(self):
        for word in ("00", "01", "001", "000", "100", "999", "1000", "0000"):
            self.refuse(1, f"places 2\nturn {word} move 1 0")
            self.refuse(1, f"places 2\nturn 0 {word} move 1 0")
            self.refuse(1, f"places 2\nturn 0 move {word} 0")
            self.refuse(1, f"places 2\nturn 0 move 1 {word}")

    def test_spaces(self):
        for line in ("turn  0 move 1 0", "turn 0  move 1 0", "turn 0 move  1 0", "turn 0 move 1  0", " turn 0 move 1 0",
                     "turn 0 move 1 0 ", "turn 0 move ", "turn  move 1 0", "turn none  move 1 0", " ", "  ",
                     "turn\t0 move 1 0", "turn 0 move 1 0\r"):
            self.refuse(1, f"places 2\n{line}")

    def test_digits_of_other_scripts(self):
        for digit in ("\u0660", "\u00b2", "\uff11"):
            self.refuse(0, f"places {digit}")
            self.refuse(1, f"places 2\nturn {digit} move 1 0")

    def test_a_line_out_twice_or_exchanged(self):
        lines = FIRST.split("\n")
        self.refuse(0, "\n".join(lines[1:]))
        self.refuse(1, "\n".join(lines[:1] + lines))
        self.refuse(0, "\n".join([lines[1], lines[0], lines[2]]))
        self.assertEqual(Rota.read("\n".join(lines[:2])).rows, first_rota().rows[:1])
        self.assertEqual(Rota.read("\n".join(lines + lines[2:])).rows, first_rota().rows + first_rota().rows[1:])
        self.assertEqual(Rota.read("\n".join([lines[0], lines[2], lines[1]])).rows, first_rota().rows[::-1])

    def test_the_first_wrong_line_is_told(self):
        self.refuse(0, "place 2\nturn 0 move\nturn")
        self.refuse(1, "places 2\nturn 0 move\nturn")
        self.refuse(2, "places 2\nturn 0 move 1 0\nturn\nmove")
        self.refuse(7, "places 1" + "\nturn 0 move 0" * 6 + "\nturn 0 move\nturn")

    def test_ahead_of_a_wrong_rota(self):
        self.refuse(1, "places 0\nturn 0 move")
        self.refuse(2, "places 2\nturn 5 move 7\nturn 0 move")


class WrongRota(unittest.TestCase):
    def refuse(self, word, text):
        error = raised(Rota.read, text)
        self.assertEqual((type(error), getattr(error, "word", None)), (InvalidRota, word), text)

    def test_places(self):
        self.refuse("places", "places 0")
        self.refuse("places", "places 0\nturn 0 move 0")
        self.refuse("places", "places 0\nturn none move 0")

    def test_rows(self):
        for rows in ("turn 2 move 1 0", "turn 0 0 move 1 0", "turn 0 move 1 1", "turn 0 move 1", "turn 0 move 0 1 2",
                     "turn 0 move 2 0", "turn none move 0", "turn 99 move 1 0", "turn 0 move 1 99",
                     "turn 0 1 0 move 1 0",
                     "turn 0 move 1 0\nturn 2 move 1 0", "turn 0 move 1 0 1"):
            self.refuse("rows", f"places 2\n{rows}")

    def test_no_row_at_all(self):
        self.refuse("rows", "places 1")
        self.refuse("rows", "places 99")


class Words(unittest.TestCase):
    """Each word of a text out, twice or exchanged with the next: read as a second, slower reader reads it."""

    def changed(self, words):
        for at in range(len(words)):
            yield words[:at] + words[at + 1:]
            yield words[:at] + [words[at]] + words[at:]
            for other in ("none", "move", "turn", "0", "1", "00", "", "x"):
                yield words[:at] + [other] + words[at:]
                yield words[:at] + [other] + words[at + 1:]
            if at + 1 < len(words):
                yield words[:at] + [words[at + 1], words[at]] + words[at + 2:]

    def right(self, words):
        """Whether words are of the form of a row: from the state before each word to the one behind it."""
        state = "begin"
        steps = {("begin", "turn"): "turn", ("turn", "none"): "none", ("turn", "n"): "turned",
                 ("turned", "n"): "turned", ("none", "move"): "move", ("turned", "move"): "move",
                 ("move", "n"): "end", ("end", "n"): "end"}
        for word in words:
            kind = "n" if word in [str(number) for number in range(100)] else word
            state = steps.get((state, kind))
        return state == "end"

    def test_lines_of_rows(self):
        for line in ("turn 0 1 move 1 0", "turn none move 1 0", "turn 1 move 0 1"):
            for words in self.changed(line.split(" ")):
                error = raised(Rota.read, "places 2\n" + " ".join(words))
                if self.right(words):
                    self.assertNotIsInstance(error, InvalidText, words)
                else:
                    self.assertIsInstance(error, InvalidText, words)
                    self.assertEqual(error.at, 1)
