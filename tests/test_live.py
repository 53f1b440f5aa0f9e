"""[25] Live cellars, held against seasons that are made at once."""

import random
import unittest

from turnrota.deciding import possible, side
from turnrota.errors import Refused
from turnrota.live import Live
from turnrota.rotas import Rota
from turnrota.seasons import Season

from tests.samples import DAILY, first_rota, first_season, odd_values, raised
from tests.trial import made_seasons, special_seasons

LOOKS = ((2, 0, 1), (4, 1, 1), (6, 0, 0), (6, 1, 1), (0, 0, 0))


class Failure(Exception):
    """An error that is none of the package."""


def blank():
    """The season of the document's examples, without looks."""
    return Season(first_rota(), 6, 2)


def no_looks():
    """Any values that are no looks of this season."""
    return odd_values() + [(7, 0, 0), (-1, 0, 0), (0, 2, 0), (0, -1, 0), (0, 0, 2), (0, 0, -1), (0, 0), (0, 0, 0, 0),
                           [0, 0, 0], (True, 0, 0), (0, False, 0), (0, 0, True), ("0", 0, 0), (0, None, 0),
                           (0, 0, first_rota()), ((0,), 0, 0), (0, [0], 0)]


class Case(unittest.TestCase):
    def stands(self, live, season, deeds):
        """What a live cellar tells is what the season tells."""
        self.assertEqual(live.season, season)
        self.assertEqual(live.season.looks, season.looks)
        self.assertIs(live.is_possible, possible(season))
        if possible(season):
            told = tuple(side(season, wheel, season.days) for wheel in range(season.wheels))
        else:
            told = (None,) * season.wheels
        self.assertEqual((live.sure, type(live.sure)), (told, tuple))
        self.assertEqual(len(live), deeds)


class Looks(Case):
    def test_as_it_begins(self):
        for season in [*special_seasons(), *made_seasons(60, 10)]:
            live = Live(season)
            self.stands(live, season, 0)
            self.assertIs(live.undo(), False)
            self.stands(live, season, 0)

    def test_one_by_one(self):
        for season in [*special_seasons(), *made_seasons(100, 10)]:
            live = Live(Season(season.rota, season.days, season.budget))
            for at, look in enumerate(season.looks):
                held = Season(season.rota, season.days, season.budget, season.looks[:at + 1])
                self.assertIs(live.look(*look), possible(held))
                self.stands(live, held, at + 1)

    def test_several_at_once(self):
        for season in [*special_seasons(), *made_seasons(100, 10)]:
            for looks in (list(season.looks), season.looks[::-1], season.looks * 2):
                live = Live(Season(season.rota, season.days, season.budget))
                self.assertIs(live.several(looks), possible(season))
                self.stands(live, season, 1 if looks else 0)

    def test_several_of_none_is_no_deed(self):
        for season in (first_season(), first_season().but(0)):
            for looks in ([], ()):
                live = Live(season)
                self.assertIs(live.several(looks), possible(season))
                self.stands(live, season, 0)

    def test_a_look_twice_is_a_deed(self):
        live = Live(blank())
        for deeds in (1, 2, 3):
            self.assertIs(live.look(2, 0, 1), True)
            self.stands(live, blank().seen([(2, 0, 1)]), deeds)
        live.several([(2, 0, 1), (2, 0, 1)])
        self.stands(live, blank().seen([(2, 0, 1)]), 4)

    def test_looks_that_no_misses_fit(self):
        live = Live(blank())
        self.assertIs(live.look(2, 0, 1), True)
        self.assertIs(live.look(2, 0, 0), False)
        self.stands(live, Season(first_rota(), 6, 2, [(2, 0, 0), (2, 0, 1)]), 2)
        self.assertEqual((live.is_possible, live.sure), (False, (None, None)))
        self.assertIs(live.look(5, 1, 1), False)
        self.assertIs(live.several([]), False)
        self.stands(live, Season(first_rota(), 6, 2, [(2, 0, 0), (2, 0, 1), (5, 1, 1)]), 3)

    def test_many_deeds(self):
        source = random.Random(6)
        season = Season(Rota(6, [([0, 1, 2, 3, 4, 5], (1, 2, 3, 4, 5, 0))]), 60, 60)
        live, looks = Live(season), []
        for at in range(40):
            looks.append((source.randint(0, 60), source.randrange(6), source.randrange(2)))
            self.assertIs(live.look(*looks[-1]), possible(season.seen(looks)))
        self.stands(live, season.seen(looks), 40)
        for at in range(39, -1, -1):
            self.assertIs(live.undo(), True)
            self.assertEqual(live.season, season.seen(looks[:at]))
        self.stands(live, season, 0)


class Refusing(Case):
    def test_looks_that_are_none(self):
        for held in ((), ((2, 0, 1),), ((2, 0, 1), (2, 0, 0))):
            live = Live(blank())
            live.several(held)
            for value in odd_values() + [7, -1, 10 ** 18]:
                for told in ((value, 0, 0), (value, 9, 9), (value, value, value)):
                    if value not in (0, 1) or isinstance(value, bool):
                        self.refused(live, told)
                        self.refused(live, (0, value, 0))
                        self.refused(live, (0, 0, value))
            self.refused(live, (0, 2, 0))
            self.refused(live, (0, 0, 2))
            self.refused(live, (7, 0, 0))
            self.stands(live, blank().seen(held), 1 if held else 0)

    def refused(self, live, told):
        error = raised(live.look, *told)
        self.assertIs(type(error), Refused, told)
        self.assertIs(type(error.value), tuple)
        self.assertEqual(len(error.value), 3)
        for part, kept in zip(told, error.value):
            self.assertIs(part, kept)

    def test_several_with_one_that_is_none(self):
        live = Live(blank())
        live.look(2, 0, 1)
        for value in no_looks():
            for looks in ([value], (value, value), [(4, 1, 1), value], ((4, 1, 1), (2, 0, 1), value, (0, 0, 9))):
                error = raised(live.several, looks)
                self.assertIs(type(error), Refused, value)
                self.assertIs(error.value, value)
                self.stands(live, blank().seen([(2, 0, 1)]), 1)

    def test_the_first_one_that_is_none(self):
        live = Live(blank())
        values = no_looks()
        for one, other in zip(values, values[1:]):
            error = raised(live.several, [(0, 0, 0), one, other])
            self.assertIs(error.value, one)

    def test_what_was_refused_is_no_deed(self):
        live = Live(blank())
        self.assertIsNotNone(raised(live.look, 0, 2, 0))
        self.assertIsNotNone(raised(live.several, [(1, 0, 1), (0, 2, 0)]))
        self.assertIs(live.undo(), False)
        self.stands(live, blank(), 0)

    def test_by_the_season_as_it_stands(self):
        live = Live(Season(DAILY, 3, 0))
        self.refused(live, (4, 0, 0))
        live.follow(Season(first_rota(), 4, 0))
        self.assertIs(live.look(4, 1, 1), True)
        live.undo()
        live.undo()
        self.refused(live, (3, 1, 0))


class Following(Case):
    def test_another_season(self):
        live = Live(blank())
        live.look(2, 0, 1)
        other = Season(DAILY, 3, 1, [(3, 0, 0)])
        self.assertIsNone(live.follow(other))
        self.assertIs(live.season, other)
        self.stands(live, other, 2)
        self.assertIs(live.undo(), True)
        self.stands(live, blank().seen([(2, 0, 1)]), 1)

    def test_an_equal_season_is_a_deed(self):
        live = Live(blank())
        live.follow(blank())
        live.follow(live.season)
        self.stands(live, blank(), 2)
        self.assertEqual([live.undo() for _ in range(3)], [True, True, False])
        self.stands(live, blank(), 0)


class Undoing(Case):
    def test_to_the_beginning_and_beyond(self):
        live = Live(blank())
        live.look(2, 0, 1)
        live.several([(4, 1, 1), (6, 0, 0)])
        live.follow(Season(DAILY, 3, 1))
        live.look(3, 0, 0)
        seasons = [Season(DAILY, 3, 1), blank().seen([(2, 0, 1), (4, 1, 1), (6, 0, 0)]), blank().seen([(2, 0, 1)]),
                   blank()]
        for deeds, season in zip((3, 2, 1, 0), seasons):
            self.assertIs(live.undo(), True)
            self.stands(live, season, deeds)
        for _ in range(3):
            self.assertIs(live.undo(), False)
            self.stands(live, blank(), 0)

    def test_deeds_behind_an_undo(self):
        live = Live(blank())
        live.look(2, 0, 1)
        live.undo()
        live.look(4, 1, 1)
        self.stands(live, blank().seen([(4, 1, 1)]), 1)
        live.undo()
        self.stands(live, blank(), 0)


class Trials(Case):
    def test_all_is_as_it_was(self):
        live = Live(blank())
        live.look(2, 0, 1)
        with live.trial() as held:
            self.assertIs(held, live)
            self.assertIs(live.look(2, 0, 0), False)
            live.follow(Season(DAILY, 3, 1))
            self.stands(live, Season(DAILY, 3, 1), 3)
        self.stands(live, blank().seen([(2, 0, 1)]), 1)
        live.undo()
        self.stands(live, blank(), 0)

    def test_of_which_nothing_is_left_but_what_was_undone_is_back(self):
        live = Live(blank())
        live.look(2, 0, 1)
        live.look(4, 1, 1)
        with live.trial():
            self.assertEqual([live.undo() for _ in range(3)], [True, True, False])
            live.look(6, 0, 0)
            self.stands(live, blank().seen([(6, 0, 0)]), 1)
        self.stands(live, first_season(), 2)
        self.assertEqual([live.undo() for _ in range(3)], [True, True, False])
        self.stands(live, blank(), 0)

    def test_within_one_another(self):
        live = Live(blank())
        with live.trial():
            live.look(2, 0, 1)
            with live.trial():
                live.look(4, 1, 1)
                with live.trial() as held:
                    held.undo()
                    held.undo()
                    self.stands(live, blank(), 0)
                self.stands(live, first_season(), 2)
            self.stands(live, blank().seen([(2, 0, 1)]), 1)
        self.stands(live, blank(), 0)

    def test_left_by_an_error_which_goes_on(self):
        live = Live(blank())
        live.look(2, 0, 1)
        for made in (Failure("so"), KeyError(1), Refused(3)):
            with self.assertRaises(type(made)) as told:
                with live.trial():
                    live.look(2, 0, 0)
                    raise made
            self.assertIs(told.exception, made)
            self.stands(live, blank().seen([(2, 0, 1)]), 1)
        with self.assertRaises(Refused):
            with live.trial():
                live.look(4, 1, 1)
                live.look(4, 2, 1)
        self.stands(live, blank().seen([(2, 0, 1)]), 1)

    def test_as_it_was_when_the_block_was_entered(self):
        live = Live(blank())
        block = live.trial()
        live.look(2, 0, 1)
        with block:
            live.look(4, 1, 1)
        self.stands(live, blank().seen([(2, 0, 1)]), 1)

    def test_each_one_is_new(self):
        live = Live(blank())
        one, other = live.trial(), live.trial()
        self.assertIsNot(one, other)
        with one:
            live.look(2, 0, 1)
            with other:
                live.look(4, 1, 1)
            self.stands(live, blank().seen([(2, 0, 1)]), 1)
        self.stands(live, blank(), 0)

    def test_of_a_cellar_without_deeds(self):
        live = Live(blank())
        with live.trial() as held:
            self.assertIs(held, live)
        self.stands(live, blank(), 0)


class Within(Case):
    def test_what_it_returns(self):
        live = Live(blank())
        live.look(2, 0, 1)
        told = object()
        self.assertIs(live.within(lambda held: told), told)
        self.assertIsNone(live.within(lambda held: None))
        self.assertIs(live.within(lambda held: held), live)
        self.assertEqual(live.within(lambda held: (held.look(2, 0, 0), len(held), held.sure)), (False, 2, (None, None)))
        self.assertEqual(live.within(lambda held: held.within(lambda again: again.look(4, 1, 1))), True)
        self.stands(live, blank().seen([(2, 0, 1)]), 1)

    def test_left_by_an_error_which_goes_on(self):
        live = Live(blank())
        made = Failure()

        def work(held):
            held.look(2, 0, 1)
            raise made

        with self.assertRaises(Failure) as told:
            live.within(work)
        self.assertIs(told.exception, made)
        self.stands(live, blank(), 0)
        error = raised(live.within, lambda held: held.look(9, 9, 9))
        self.assertEqual((type(error), error.value), (Refused, (9, 9, 9)))

    def test_it_is_called_once_with_the_cellar(self):
        live, calls = Live(blank()), []
        live.within(work=calls.append)
        self.assertEqual(len(calls), 1)
        self.assertIs(calls[0], live)


class Calling(Case):
    def test_parameter_names(self):
        live = Live(season=blank())
        self.assertIs(live.look(side=1, wheel=0, day=2), True)
        self.assertIs(live.several(looks=[(4, 1, 1)]), True)
        self.assertIsNone(live.follow(season=blank()))
        self.stands(live, blank(), 3)

    def test_is_not_iterable(self):
        self.assertRaises(TypeError, iter, Live(blank()))
        self.assertRaises(TypeError, iter, Live(blank()).trial())

    def test_arguments_stay_as_they_are(self):
        looks, season = [(4, 1, 1), (2, 0, 1), (4, 1, 1)], blank()
        live = Live(season)
        live.several(looks)
        self.assertEqual((looks, season.looks), ([(4, 1, 1), (2, 0, 1), (4, 1, 1)], ()))
        looks.append((6, 0, 0))
        self.stands(live, first_season(), 1)

    def test_two_cellars_of_one_season(self):
        season = blank()
        one, other = Live(season), Live(season)
        one.look(2, 0, 1)
        self.stands(other, season, 0)
        other.look(4, 1, 1)
        self.stands(one, season.seen([(2, 0, 1)]), 1)
        self.stands(other, season.seen([(4, 1, 1)]), 1)
