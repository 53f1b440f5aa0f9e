"""Lying: for how many days a wheel can lie unturned, in a season and for ever.

A *rest* (begin, end) of a wheel is a made turning on the day `begin`, or -1 if there was none yet, and no other
one up to the beginning of the day `end`.
"""

from turnrota.deciding import least_misses, parts, slack, surely_missed
from turnrota.ways import check_wheel, far_item, round_days, round_dues


def longest_lying(season, wheel):
    """The greatest number of days that a wheel lay unturned, for any misses that fit."""
    begin, end = longest_rest(season, wheel)
    return end - max(begin, 0)


def lying_misses(season, wheel):
    """Some pair (day, misses) of misses that fit with which a wheel lay so long at the beginning of this day."""
    begin, end = longest_rest(season, wheel)
    others = [(day, turned) for day, turned in least_misses(season) if turned != wheel]
    return end, tuple(sorted(others + [(day, wheel) for day in rest_misses(season, wheel, begin, end)]))


def surely_lain(season, wheel, day):
    """The least number of days that a wheel lay unturned at the beginning of a day, of all misses that fit."""
    check_wheel(season.rota, wheel)
    missed = surely_missed(season)
    # With some misses the last one of those that can have been made was made, and no later one ever.
    made = [due for due in season.turnings[wheel] if due < day and (due, wheel) not in missed]
    return day - max(made, default=0)


def gap(rota, wheel, misses):
    """The greatest number of days between two made turnings of a wheel, if so many are missed between, or None."""
    check_wheel(rota, wheel)
    days = round_dues(rota, wheel)
    return widest_gap(days, round_days(rota, wheel), misses) if days else None


def worst_gap(rota, misses):
    """The greatest gap of all wheels, or None if one has none."""
    gaps = [gap(rota, wheel, misses) for wheel in range(rota.places)]
    return None if None in gaps else max(gaps)


def widest_gap(days, period, misses):
    """The greatest number of days from one of some days, that come again after a period, to the one `misses` + 1
    of them later."""
    return max([far_item(days, period, at + misses + 1) - day for at, day in enumerate(days)])


def longest_rest(season, wheel):
    """The days (begin, end) of the longest rest of a wheel that some misses that fit have."""
    check_wheel(season.rota, wheel)
    own, left = parts(season, wheel), slack(season)
    rests = [(begin, rest_end(own, left, begin, season.days)) for begin in (-1,) + season.turnings[wheel]]
    return max(rests, key=lambda rest: rest[1] - max(rest[0], 0))


def rest_end(own, left, begin, days):
    """The latest end of a rest that begins on a day, by the stretches of the wheel and the slack that is left."""
    for _, _, odd, turnings in own:
        # An odd stretch owes a miss from the beginning, one that is not slack. Beyond it they are spent in pairs, so
        # that the first one of a pair makes the stretch owe the other one, on a turning that is spare yet.
        owes, spare = odd, len(turnings)
        for day in turnings:
            if day < begin:
                continue
            spare -= 1
            if day > begin and odd is None:
                left -= 1
            elif day > begin:
                left -= 0 if owes else 2
                owes = not owes
            if left < 0 or (owes and spare == 0):
                return day
    return days


def rest_misses(season, wheel, begin, end):
    """The days of a wheel's misses in a rest, and of those that its stretches owe then."""
    missed = []
    for _, _, odd, turnings in parts(season, wheel):
        resting = [day for day in turnings if begin < day < end]
        missed.extend(resting)
        if odd is not None and odd != (len(resting) % 2 == 1):
            missed.append([day for day in turnings if day < begin or day >= end][0])
    return missed
