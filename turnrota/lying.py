"""Lying: for how many days a wheel can lie unturned, in a season and for ever.

What is asked of a wheel is said by further looks: it lies unturned as long as they show the same side on
each day. The days are counted from the first look: at a made turning this is the one ahead of it.
"""

from turnrota.deciding import check_possible, least_misses, possible, surely_missed, wheel_days
from turnrota.ways import check_wheel, far_item, round_days, round_dues


def longest_lying(season, wheel):
    """The greatest number of days that a wheel lay unturned, for any misses that fit."""
    return longest_rest(season, wheel)[0]


def lying_misses(season, wheel):
    """Some pair (day, misses) of misses that fit with which a wheel lay so long at the beginning of this day."""
    _, day, supposed = longest_rest(season, wheel)
    return day, least_misses(supposed)


def surely_lain(season, wheel, day):
    """The least number of days that a wheel lay unturned at the beginning of a day, of all misses that fit."""
    check_wheel(season.rota, wheel)
    missed = surely_missed(season)
    # With some misses the last one of those that can have been made was made, and no later one ever.
    made = [due for due in wheel_days(season, wheel) if due < day and (due, wheel) not in missed]
    return day - max(made, default=0)


def gap(rota, wheel, misses):
    """The greatest number of days between two made turnings of a wheel, if so many are missed between, or None."""
    check_wheel(rota, wheel)
    days = round_dues(rota, wheel)
    return widest_gap(days, round_days(rota, wheel), misses) if days else None


def worst_gap(rota, misses):
    """The greatest gap of all wheels, or None if one has none."""
    gaps = [gap(rota, wheel, misses) for wheel in range(rota.places)]
    return None if None in gaps else max(gaps)


def widest_gap(days, period, misses):
    """The greatest number of days from one of some days, that come again after a period, to the one `misses` + 1
    of them later."""
    return max([far_item(days, period, at + misses + 1) - day for at, day in enumerate(days)])


def longest_rest(season, wheel):
    """The greatest number of days that a wheel lay unturned, the day at whose beginning it did, and the season
    with the looks that say so."""
    check_wheel(season.rota, wheel)
    check_possible(season)
    days, end, supposed = 0, 0, season
    for begin in begins(season, wheel):
        from_day = begin[0][0]
        # Who can lie unturned for so many days from here can do so for fewer: only longer ones are tried.
        while from_day + days < season.days:
            longer = unturned(season, begin, from_day + days + 1)
            if not possible(longer):
                break
            days, end, supposed = days + 1, from_day + days + 1, longer
    return days, end, supposed


def begins(season, wheel):
    """The looks with which a wheel can begin to lie: at side 0 on day 0, or at both sides around a made turning."""
    made = [((day, wheel, 1 - up), (day + 1, wheel, up)) for day in wheel_days(season, wheel) for up in (0, 1)]
    return [((0, wheel, 0),)] + made


def unturned(season, begin, end):
    """The season in which a wheel begins to lie with these looks, and is not turned up to the beginning of a day."""
    first, wheel, up = begin[-1]
    return season.seen(begin + tuple([(day, wheel, up) for day in range(first + 1, end + 1)]))
