"""Seasons: the days of a rota, how many turnings can have been missed, and what was seen."""

from turnrota.errors import InvalidMisses, InvalidSeason
from turnrota.kinds import is_below, is_sequence, is_whole
from turnrota.ways import dues_ahead


class Season:
    """So many days of a rota with at most `budget` misses, and looks (day, wheel, side) at its wheels; `turnings`
    has the days of the due turnings of each wheel."""

    def __init__(self, rota, days, budget, looks=()):
        if not is_whole(days, 1):
            raise InvalidSeason("days")
        if not is_whole(budget, 0):
            raise InvalidSeason("budget")
        if not are_looks(looks, rota.places, days):
            raise InvalidSeason("looks")
        self.rota = rota
        self.days = days
        self.budget = budget
        self.looks = tuple(sorted(set(looks)))
        self.wheels = rota.places
        self.turnings = tuple([tuple(dues_ahead(rota, wheel, days)) for wheel in range(rota.places)])
        self.due = tuple(sorted([(day, wheel) for wheel, due in enumerate(self.turnings) for day in due]))

    def seen(self, looks):
        """The season with these looks, too."""
        if not are_looks(looks, self.wheels, self.days):
            raise InvalidSeason("looks")
        return Season(self.rota, self.days, self.budget, self.looks + tuple(looks))

    def but(self, budget):
        """The season with another budget."""
        return Season(self.rota, self.days, budget, self.looks)

    def __eq__(self, other):
        return (isinstance(other, Season) and self.rota == other.rota and self.days == other.days
                and self.budget == other.budget and self.looks == other.looks)


def sides(season, misses, day):
    """The sides that are up at the beginning of a day, for all wheels, if these turnings were missed."""
    made = made_turnings(season, misses)
    return tuple([side_up(made, wheel, day) for wheel in range(season.wheels)])


def lain(season, misses, day):
    """How many days each wheel lay unturned at the beginning of a day, if these turnings were missed."""
    made = made_turnings(season, misses)
    return tuple([day - max(days_ahead(made, wheel, day), default=0) for wheel in range(season.wheels)])


def broken(season, misses):
    """The indexes of the looks that do not go with these misses, ascending."""
    made = made_turnings(season, misses)
    return tuple([at for at, (day, wheel, up) in enumerate(season.looks) if side_up(made, wheel, day) != up])


def fits(season, misses):
    """Whether these misses break no look, and are not more than the budget."""
    gainsaid = broken(season, misses)
    return not gainsaid and len(misses) <= season.budget


def are_looks(looks, wheels, days):
    """Whether any value is a sequence of looks at one of so many wheels, in so many days."""
    return is_sequence(looks) and all([is_look(look, wheels, days) for look in looks])


def is_look(look, wheels, days):
    """Whether any value is a look at one of so many wheels, from the first day to the end of the last one."""
    if not isinstance(look, tuple) or len(look) != 3:
        return False
    day, wheel, up = look
    return is_below(day, days + 1) and is_below(wheel, wheels) and is_below(up, 2)


def is_turning(season, pair):
    """Whether any value is a pair (day, wheel) of the season that is due."""
    if not isinstance(pair, tuple) or len(pair) != 2:
        return False
    day, wheel = pair
    return is_below(wheel, season.wheels) and is_whole(day, 0) and day in season.turnings[wheel]


def made_turnings(season, misses):
    """The pairs of the season that were made if these were missed, ascending; InvalidMisses if they are none."""
    if not is_sequence(misses):
        raise InvalidMisses(0)
    made = {pair: True for pair in season.due}
    for at, miss in enumerate(misses):
        if not is_turning(season, miss) or miss not in made:
            raise InvalidMisses(at)
        del made[miss]
    return list(made)


def days_ahead(turnings, wheel, day):
    """The days ahead of a day that stand with a wheel among these pairs."""
    return [on for on, turned in turnings if turned == wheel and on < day]


def side_up(made, wheel, day):
    """The side of a wheel at the beginning of a day, if these turnings were made."""
    return len(days_ahead(made, wheel, day)) % 2
