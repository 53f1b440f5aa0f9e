"""Desks: a live cellar that is led by commands in words."""

from turnrota.counting import count
from turnrota.deciding import least
from turnrota.errors import InvalidCommand
from turnrota.kinds import is_numeral
from turnrota.live import Live
from turnrota.lying import gap
from turnrota.rotas import Rota
from turnrota.seasons import Season


def begin_rota(live, text):
    """Goes on with the rota of a text; the number of its rows."""
    rota = Rota.read(text)
    live.follow(first_season(rota))
    return str(len(rota))


def begin_season(live, days, budget):
    """Goes on with a new season of the rota; how many turnings are due in it."""
    season = Season(live.season.rota, days, budget)
    live.follow(season)
    return str(len(season.due))


def add_look(live, day, wheel, side):
    """Adds a look; whether some misses fit then."""
    return "fits" if live.look(day, wheel, side) else "none"


def tell_sides(live):
    """The sides of all wheels behind the last day."""
    if not live.is_possible:
        return "none"
    return " ".join(["?" if up is None else str(up) for up in live.sure])


def tell_least(live):
    """The least number of misses."""
    return number_or_never(least(live.season))


def tell_count(live):
    """The number of lots of misses that fit."""
    return str(count(live.season))


def tell_gap(live, wheel, misses):
    """The greatest gap of a wheel with so many misses."""
    return number_or_never(gap(live.season.rota, wheel, misses))


def take_back(live):
    """Takes back the last rota, season or look; whether there was one."""
    return "undone" if live.undo() else "nothing"


ACTIONS = {
    "season": begin_season,
    "look": add_look,
    "sides": tell_sides,
    "least": tell_least,
    "count": tell_count,
    "gap": tell_gap,
    "undo": take_back,
}
# How many numbers stand behind the word of a command.
NUMBERS = {"season": 2, "look": 3, "sides": 0, "least": 0, "count": 0, "gap": 2, "undo": 0}


class Desk:
    """A desk that takes commands."""

    def __init__(self):
        self.live = Live(first_season(Rota(1, [((0,), (0,))])))

    def say(self, command):
        """Does a command; its answer."""
        word, *told = command_words(command)
        if word == "rota" and told:
            return begin_rota(self.live, " ".join(told).replace(" ; ", "\n"))
        if NUMBERS.get(word) != len(told) or not all([is_numeral(part) for part in told]):
            raise InvalidCommand()
        action = ACTIONS[word]
        numbers = [int(part) for part in told]
        return action(self.live, *numbers)

    def __len__(self):
        return len(self.live)


def first_season(rota):
    """The season with which a rota begins."""
    return Season(rota, 7, 0)


def command_words(command):
    """The words of any value that is a command; InvalidCommand if it has not the form of one."""
    if not isinstance(command, str) or "\n" in command:
        raise InvalidCommand()
    words = command.split(" ")
    if "" in words:
        raise InvalidCommand()
    return words


def number_or_never(number):
    """The text of a number, or `never` for None."""
    return "never" if number is None else str(number)
