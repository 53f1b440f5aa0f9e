"""[26], [27] Desks."""

import random
import unittest

from turnrota.counting import count
from turnrota.deciding import least, possible, side
from turnrota.desk import Desk
from turnrota.errors import InvalidCommand, InvalidRota, InvalidSeason, InvalidText, NoWheel, Refused
from turnrota.lying import gap
from turnrota.rotas import Rota
from turnrota.seasons import Season

from tests.samples import large_rotas, odd_values, raised

FIRST = "rota places 2 ; turn 0 move 1 0 ; turn 0 1 move 0 1"
QUESTIONS = ("sides", "least", "count", "gap 0 0", "gap 0 3")


def led(*commands):
    """A desk to which these commands were said."""
    desk = Desk()
    for command in commands:
        desk.say(command)
    return desk


def told(desk):
    """What a desk tells of how things stand."""
    return [desk.say(question) for question in QUESTIONS] + [len(desk)]


class Commands(unittest.TestCase):
    def test_as_it_begins(self):
        desk = Desk()
        self.assertEqual(told(desk), ["1", "0", "1", "1", "4", 0])
        self.assertEqual((desk.say("season 7 0"), desk.say("look 7 0 1"), desk.say("look 7 0 0")), ("7", "fits", "none"))

    def test_rota(self):
        desk = Desk()
        self.assertEqual(desk.say(FIRST), "2")
        self.assertEqual(told(desk), ["1 1", "0", "1", "2", "6", 1])
        self.assertEqual(desk.say("rota places 1 ; turn none move 0"), "1")
        self.assertEqual(told(desk), ["0", "0", "1", "never", "never", 2])

    def test_rota_begins_a_season_of_7_days_without_budget(self):
        desk = led(FIRST, "season 60 60", "look 60 0 0", FIRST)
        self.assertEqual((told(desk), desk.say("look 7 0 1")), (["1 1", "0", "1", "2", "6", 4], "fits"))
        self.assertEqual(raised(desk.say, "look 8 0 1").value, (8, 0, 1))

    def test_rota_for_all_texts(self):
        for rota in large_rotas():
            desk = Desk()
            self.assertEqual(desk.say("rota " + str(rota).replace("\n", " ; ")), str(len(rota)))
            season = Season(rota, 7, 0)
            self.assertEqual(desk.say("sides"), " ".join(str(side(season, wheel, 7)) for wheel in range(rota.places)))
            self.assertEqual(desk.say("season 7 0"), str(len(season.due)))

    def test_season(self):
        desk = led(FIRST)
        self.assertEqual([desk.say(f"season {days} 2") for days in (1, 2, 6, 60, 99)], ["1", "3", "9", "90", "148"])
        self.assertEqual(desk.say("season 6 0"), "9")
        self.assertEqual(len(desk), 7)
        self.assertEqual((desk.say("look 6 0 1"), desk.say("look 2 0 1")), ("fits", "none"))
        # A new season has no looks.
        self.assertEqual((desk.say("season 6 0"), desk.say("count")), ("9", "1"))

    def test_look(self):
        desk = led(FIRST, "season 6 2")
        self.assertEqual([desk.say(word) for word in ("look 2 0 1", "look 4 1 1", "look 4 1 1", "look 2 0 0", "look 0 0 0")],
                         ["fits", "fits", "fits", "none", "none"])
        self.assertEqual(len(desk), 7)

    def test_sides(self):
        desk = led(FIRST, "season 6 2")
        self.assertEqual(desk.say("sides"), "? ?")
        self.assertEqual((desk.say("look 6 0 1"), desk.say("sides")), ("fits", "1 ?"))
        self.assertEqual((desk.say("look 6 1 1"), desk.say("sides")), ("fits", "1 1"))
        self.assertEqual((desk.say("look 6 1 0"), desk.say("sides")), ("none", "none"))
        self.assertEqual(led(FIRST, "season 2 0").say("sides"), "0 1")

    def test_least(self):
        desk = led(FIRST, "season 6 0")
        self.assertEqual(desk.say("least"), "0")
        desk.say("look 2 0 1")
        self.assertEqual((desk.say("least"), desk.say("sides"), desk.say("count")), ("1", "none", "0"))
        desk.say("look 2 0 0")
        self.assertEqual((desk.say("least"), desk.say("sides"), desk.say("count")), ("never", "none", "0"))

    def test_count(self):
        self.assertEqual(led("season 60 60").say("count"), str(1 << 60))
        self.assertEqual(led("season 60 1").say("count"), "61")
        self.assertEqual(led(FIRST, "season 6 2", "look 2 0 1", "look 4 1 1").say("count"), "10")

    def test_gap(self):
        desk = led(FIRST)
        self.assertEqual([desk.say(f"gap 0 {misses}") for misses in (0, 1, 3, 99)], ["2", "3", "6", "134"])
        desk = led("rota places 2 ; turn 1 move 0 1")
        self.assertEqual((desk.say("gap 0 7"), desk.say("gap 1 7")), ("never", "8"))

    def test_against_the_functions(self):
        source = random.Random(13)
        for rota in list(large_rotas())[::3]:
            desk = led("rota " + str(rota).replace("\n", " ; "))
            season = Season(rota, 12, 3)
            desk.say("season 12 3")
            for _ in range(4):
                look = (source.randint(0, 12), source.randrange(rota.places), source.randrange(2))
                season = season.seen([look])
                self.assertEqual(desk.say("look {} {} {}".format(*look)), "fits" if possible(season) else "none")
                self.assertEqual(desk.say("count"), str(count(season)))
                self.assertEqual(desk.say("least"), "never" if least(season) is None else str(least(season)))
                if possible(season):
                    ups = [side(season, wheel, 12) for wheel in range(rota.places)]
                    self.assertEqual(desk.say("sides"), " ".join("?" if up is None else str(up) for up in ups))
                else:
                    self.assertEqual(desk.say("sides"), "none")
                longest = gap(rota, look[1], look[0])
                self.assertEqual(desk.say(f"gap {look[1]} {look[0]}"), "never" if longest is None else str(longest))


class Undo(unittest.TestCase):
    def test_nothing(self):
        desk = Desk()
        for _ in range(3):
            self.assertEqual((desk.say("undo"), told(desk)), ("nothing", ["1", "0", "1", "1", "4", 0]))

    def test_each_of_rota_season_and_look(self):
        desk, stood = Desk(), []
        for command in (FIRST, "season 6 2", "look 2 0 1", "look 2 0 1", "look 2 0 0", "season 3 1", "look 3 1 1",
                        "rota places 1 ; turn 0 move 0", "season 7 0"):
            stood.append(told(desk))
            desk.say(command)
        self.assertEqual(len(desk), 9)
        for before in stood[::-1]:
            self.assertEqual(desk.say("undo"), "undone")
            self.assertEqual(told(desk), before)
        self.assertEqual((desk.say("undo"), len(desk)), ("nothing", 0))

    def test_questions_are_not_taken_back(self):
        desk = led(FIRST, *QUESTIONS)
        self.assertEqual(len(desk), 1)
        desk.say("undo")
        self.assertEqual(told(desk), ["1", "0", "1", "1", "4", 0])

    def test_undo_is_not_taken_back(self):
        desk = led(FIRST, "season 6 2", "undo", "undo", "undo")
        self.assertEqual(told(desk), ["1", "0", "1", "1", "4", 0])

    def test_many(self):
        desk = Desk()
        for day in range(40):
            desk.say(f"look {day % 8} 0 {day % 2}")
        self.assertEqual(len(desk), 40)
        self.assertEqual([desk.say("undo") for _ in range(41)], ["undone"] * 40 + ["nothing"])


class WrongCommands(unittest.TestCase):
    def check(self, kind, command, *before):
        desk = led(*before)
        stood = told(desk)
        error = raised(desk.say, command)
        self.assertIs(type(error), kind, repr(command))
        self.assertEqual(told(desk), stood, repr(command))
        return error

    def test_values_that_are_no_strings(self):
        for value in odd_values() + [0, 7, -1, ["sides"], ("sides",), b"sides"]:
            if not isinstance(value, str):
                self.check(InvalidCommand, value)

    def test_words_that_are_none(self):
        for command in ("", "0", "1", "side", "Sides", "SIDES", "sides.", "none", "rotas", "takeback", "undone", ";",
                        "places 1 ; turn 0 move 0", "sides\t", "?"):
            self.check(InvalidCommand, command)

    def test_spaces(self):
        for command in (FIRST, "season 6 2", "look 2 0 1", "sides", "least", "count", "gap 0 1", "undo"):
            self.check(InvalidCommand, " " + command)
            self.check(InvalidCommand, command + " ")
            self.check(InvalidCommand, "  " + command)
            if " " in command:
                self.check(InvalidCommand, command.replace(" ", "  ", 1))
                self.check(InvalidCommand, "  ".join(command.rsplit(" ", 1)))
                self.check(InvalidCommand, command.replace(" ", "\t", 1))
        for command in (" ", "  ", "rota ", "rota  ", "rota places 1 ;  ; turn 0 move 0"):
            self.check(InvalidCommand, command)

    def test_newlines(self):
        for command in ("sides\n", "\nsides", "\n", "look 2\n0 1", "rota places 1\nturn 0 move 0",
                        "rota places 1 ; turn 0 move 0\n", "rota\nplaces 1 ; turn 0 move 0", "rota \n"):
            self.check(InvalidCommand, command)

    def test_too_few_and_too_many_words(self):
        for command in ("rota", "season", "season 6", "season 6 2 1", "look", "look 2", "look 2 0", "look 2 0 1 1",
                        "sides 0", "sides sides", "least 1", "count 0", "gap", "gap 0", "gap 0 1 2", "undo 1",
                        "undo undo"):
            self.check(InvalidCommand, command)

    def test_numbers_that_are_none(self):
        for number in ("00", "01", "007", "100", "999", "-1", "+1", "1.", "1.0", "x", "None", "0x1", "1_0", "True",
                       "?", ";", "\u0661", "\u00b2", "1\t"):
            for command in (f"season {number} 2", f"season 6 {number}", f"look {number} 0 1", f"look 2 {number} 1",
                            f"look 2 0 {number}", f"gap {number} 1", f"gap 0 {number}"):
                self.check(InvalidCommand, command)

    def test_texts_that_are_none(self):
        for text, at in (("places", 0), ("places 0x1", 0), ("places 1 ;", 0), ("; places 1", 0), ("0", 0), (";", 0),
                         ("places 1 ; ;", 1), ("places 1 ; turn 0", 1), ("places 1 ; turn 0 move 0 ; turn 00 move 0", 2),
                         ("places 1 ; turn 0 move 0 ;", 1), ("places 1;turn 0 move 0", 0), ("places 100", 0),
                         ("places 1 ; turn 0 move 0\t", 1), ("places 1 ; turn 0 move 0 turn", 1)):
            for before in ((), (FIRST, "season 6 2", "look 2 0 1")):
                self.assertEqual(self.check(InvalidText, "rota " + text, *before).at, at, text)

    def test_rotas_that_are_none(self):
        for text, word in (("places 0", "places"), ("places 0 ; turn none move 0", "places"), ("places 1", "rows"),
                           ("places 1 ; turn 1 move 0", "rows"), ("places 2 ; turn 0 move 0", "rows"),
                           ("places 2 ; turn 0 0 move 0 1", "rows"), ("places 2 ; turn 0 move 0 0", "rows")):
            for before in ((), (FIRST, "season 6 2", "look 2 0 1")):
                self.assertEqual(self.check(InvalidRota, "rota " + text, *before).word, word, text)

    def test_newlines_are_told_from_left_to_right(self):
        # The second semicolon has no space of its own any more.
        self.assertEqual(self.check(InvalidText, "rota places 1 ; ; turn 0 move 0").at, 1)
        self.assertEqual(led("rota places 1 ; turn 0 move 0 ; turn none move 0").say("rota places 1 ; turn 0 move 0"), "1")

    def test_seasons_that_are_none(self):
        for before in ((), (FIRST, "season 6 2", "look 2 0 1")):
            self.assertEqual(self.check(InvalidSeason, "season 0 0", *before).word, "days")
            self.assertEqual(self.check(InvalidSeason, "season 0 99", *before).word, "days")

    def test_looks_that_are_none(self):
        for before, wheels, days in (((), 1, 7), ((FIRST, "season 6 2"), 2, 6), ((FIRST, "season 6 2", "look 2 0 1"), 2, 6)):
            for look in ((days + 1, 0, 0), (99, 0, 0), (0, wheels, 0), (0, 99, 0), (0, 0, 2), (0, 0, 99), (99, 99, 99)):
                error = self.check(Refused, "look {} {} {}".format(*look), *before)
                self.assertEqual((error.value, type(error.value)), (look, tuple))

    def test_wheels_that_are_none(self):
        for wheel in (2, 3, 99):
            self.assertEqual(self.check(NoWheel, f"gap {wheel} 0", FIRST).value, wheel)
        self.assertEqual(self.check(NoWheel, "gap 1 0").value, 1)
        self.assertEqual(self.check(NoWheel, "gap 1 0", "rota places 1 ; turn none move 0").value, 1)


class Calling(unittest.TestCase):
    def test_parameter_name(self):
        desk = Desk()
        self.assertEqual(desk.say(command="season 6 2"), "6")
        self.assertIs(type(raised(desk.say, command="")), InvalidCommand)

    def test_results_are_texts(self):
        desk = Desk()
        for command in (FIRST, "season 6 2", "look 2 0 1", *QUESTIONS, "undo"):
            self.assertIs(type(desk.say(command)), str)

    def test_two_desks_by_turns(self):
        one, other = Desk(), Desk()
        self.assertEqual((one.say(FIRST), other.say("season 3 1")), ("2", "3"))
        self.assertEqual((one.say("season 6 2"), other.say("look 3 0 0")), ("9", "fits"))
        self.assertEqual((one.say("look 2 0 1"), other.say("count")), ("fits", "3"))
        self.assertEqual((len(one), len(other)), (3, 2))
        self.assertEqual((other.say("undo"), one.say("least"), other.say("least")), ("undone", "1", "0"))
        self.assertEqual((other.say("undo"), other.say("undo"), one.say("undo")), ("undone", "nothing", "undone"))
        self.assertEqual((one.say("sides"), other.say("sides")), ("? ?", "1"))

    def test_the_same_question_twice(self):
        desk = led(FIRST, "season 6 2", "look 2 0 1", "look 4 1 1")
        self.assertEqual(told(desk), told(desk))

    def test_is_not_iterable(self):
        self.assertRaises(TypeError, iter, Desk())

    def test_the_rota_stays(self):
        desk = led(FIRST, "season 3 0", "season 60 60")
        rota = Rota(2, [([0], (1, 0)), ([0, 1], (0, 1))])
        self.assertEqual(desk.say("count"), str(count(Season(rota, 60, 60))))
