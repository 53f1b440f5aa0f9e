"""[4] The errors."""

import unittest

from turnrota import errors
from turnrota.errors import (InvalidCommand, InvalidDays, InvalidMisses, InvalidRota, InvalidSeason, InvalidText,
                             NoFit, NoLot, NoTurning, NoWheel, Refused, TurnError)

from tests.samples import odd_values

KEEPING = ((InvalidRota, "word"), (InvalidText, "at"), (InvalidSeason, "word"), (InvalidMisses, "at"),
           (InvalidDays, "at"), (NoWheel, "value"), (NoTurning, "day"), (NoLot, "at"), (Refused, "value"))
BARE = (InvalidCommand, NoFit)
ALL = tuple(kind for kind, _ in KEEPING) + BARE


class ErrorClasses(unittest.TestCase):
    def test_turn_error_is_a_value_error(self):
        self.assertEqual(TurnError.__bases__, (ValueError,))

    def test_each_one_is_directly_below_turn_error(self):
        for kind in ALL:
            self.assertEqual(kind.__bases__, (TurnError,), kind)
            self.assertTrue(issubclass(kind, ValueError), kind)

    def test_none_is_derived_from_another_one(self):
        for one in ALL:
            for other in ALL:
                self.assertEqual(issubclass(one, other), one == other, (one, other))

    def test_there_are_just_these(self):
        found = [name for name, thing in vars(errors).items()
                 if isinstance(thing, type) and issubclass(thing, TurnError) and thing != TurnError]
        self.assertEqual(sorted(found), sorted(kind.__name__ for kind in ALL))


class ErrorValues(unittest.TestCase):
    def test_keep_the_very_values_that_they_were_made_with(self):
        for kind, name in KEEPING:
            for value in odd_values() + [0, -1, 10 ** 18, "rows", (1, 0, True)]:
                self.assertIs(getattr(kind(value), name), value, (kind, value))

    def test_are_made_by_the_parameter_names_too(self):
        for kind, name in KEEPING:
            for value in odd_values():
                self.assertIs(getattr(kind(**{name: value}), name), value, (kind, value))

    def test_keep_the_value_itself_when_it_changes(self):
        for kind, name in KEEPING:
            value = [1]
            error = kind(value)
            value.append(2)
            self.assertEqual(getattr(error, name), [1, 2])

    def test_ask_for_their_value(self):
        for kind, _ in KEEPING:
            self.assertRaises(TypeError, kind)
            self.assertRaises(TypeError, kind, 1, 2)

    def test_those_without_a_value_are_made_with_nothing(self):
        for kind in BARE:
            self.assertIsInstance(kind(), kind)

    def test_are_caught_by_each_of_their_classes(self):
        for made in [kind(0) for kind, _ in KEEPING] + [kind() for kind in BARE]:
            for caught in (type(made), TurnError, ValueError):
                with self.assertRaises(caught) as told:
                    raise made
                self.assertIs(told.exception, made)

    def test_are_not_iterable(self):
        for made in [kind([0]) for kind, _ in KEEPING] + [kind() for kind in BARE]:
            self.assertRaises(TypeError, iter, made)
