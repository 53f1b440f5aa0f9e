"""Ways of wheels: where a wheel lies, and when it is due to be turned.

A wheel that lies on its first place at the beginning of a pass through the rows does again what it did
from day 0 on. So its days up to then, its round, tell all of its days, however far.
"""

from turnrota.errors import NoWheel
from turnrota.kinds import is_below


def place(rota, wheel, day):
    """The place of a wheel at the beginning of a day."""
    check_wheel(rota, wheel)
    spots = round_spots(rota, wheel)
    return spots[day % len(spots)]


def wheel_on(rota, spot, day):
    """The wheel that lies on a place at the beginning of a day."""
    check_wheel(rota, spot)
    return [place(rota, wheel, day) for wheel in range(rota.places)].index(spot)


def round_days(rota, wheel):
    """The number of days of a wheel's round."""
    check_wheel(rota, wheel)
    return len(round_spots(rota, wheel))


def is_due(rota, wheel, day):
    """Whether a wheel is due to be turned on a day."""
    return place(rota, wheel, day) in rota.rows[day % len(rota)][0]


def due_count(rota, wheel, day):
    """The number of days ahead of a day on which a wheel is due."""
    rounds, rest = divmod(day, round_days(rota, wheel))
    days = round_dues(rota, wheel)
    return rounds * len(days) + len([due for due in days if due < rest])


def due_day(rota, wheel, at):
    """The day of the turning of a wheel with a number, or None if it is never due."""
    check_wheel(rota, wheel)
    days = round_dues(rota, wheel)
    return far_item(days, round_days(rota, wheel), at) if days else None


def check_wheel(rota, wheel):
    """Raises NoWheel if any value is no number of a wheel; places have the same numbers."""
    if not is_below(wheel, rota.places):
        raise NoWheel(wheel)


def far_item(row, period, at):
    """The item with a number of a row that comes again and again, each time higher by a period; numbers below 0
    tell earlier ones."""
    rounds, rest = divmod(at, len(row))
    return rounds * period + row[rest]


def round_spots(rota, wheel):
    """The places of a wheel at the beginning of each day of its round."""
    spots = []
    spot = wheel
    while not spots or spot != wheel:
        for _, moves in rota.rows:
            spots.append(spot)
            spot = moves[spot]
    return spots


def round_dues(rota, wheel):
    """The days of a wheel's round on which it is due, ascending."""
    return dues_ahead(rota, wheel, len(round_spots(rota, wheel)))


def dues_ahead(rota, wheel, day):
    """The days ahead of a day on which a wheel is due, ascending; they are gone through one by one."""
    spots = round_spots(rota, wheel)
    return [due for due in range(day) if spots[due % len(spots)] in rota.rows[due % len(rota)][0]]
