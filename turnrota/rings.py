"""Rings: the harm that a wheel takes for ever, if only so many of its turnings are missed in each span of days.

A *stand* is a pair (day, missed): a made turning on a day of the wheel's round, and how many days ago turnings
were missed, as far as they still matter. What can come behind a stand hangs on nothing else; so a round of
misses is a circle of steps from one stand to another one, a *step* being (days, harm, stand): the days to the
next made turning, the harm of these days, and the stand there.
"""

from turnrota.errors import InvalidSeason
from turnrota.kinds import is_below, is_whole, lowest
from turnrota.ways import check_wheel, due_count, far_item, is_due, round_days, round_dues


class Harm:
    """A wheel of a rota for ever, of whose turnings at most `misses` are missed in any `span` days; it takes harm
    on each day on which it lies unturned for more than `limit` days."""

    def __init__(self, rota, wheel, span, misses, limit):
        check_wheel(rota, wheel)
        for word, value, least in (("span", span, 1), ("misses", misses, 0), ("limit", limit, 1)):
            if not is_whole(value, least):
                raise InvalidSeason(word)
        self.rota = rota
        self.wheel = wheel
        self.span = span
        self.misses = misses
        self.limit = limit


def lies_for_ever(harm):
    """Whether the wheel can be unturned for ever."""
    return keeps_spans(harm, round_dues(harm.rota, harm.wheel), round_days(harm.rota, harm.wheel))


def mean_harm(harm):
    """The greatest mean harm by day of all rounds of misses, or None if the wheel can lie for ever."""
    worst = worst_round(harm)
    return None if worst is None else harm_of(harm, worst[0], worst[1])


def worst_round(harm):
    """Some round (days, missed) with the greatest mean harm, or None if the wheel can lie for ever."""
    if lies_for_ever(harm):
        return None
    steps = all_steps(harm)
    worse = (round_days(harm.rota, harm.wheel), ())
    while worse is not None:
        worst = worse
        _, worse = weigh(harm, steps, harm_of(harm, worst[0], worst[1]))
    return worst


def harm_of(harm, days, missed):
    """The mean harm by day of a round of misses, or None if these (any values; `missed` is a tuple) are none."""
    if not is_round(harm, days, missed):
        return None
    dues, period = round_dues(harm.rota, harm.wheel), round_days(harm.rota, harm.wheel)
    usual = sum([harm_between(harm, day, far_item(dues, period, at + 1)) for at, day in enumerate(dues)])
    more = sum([harm_by_miss(harm, days, missed, day) for day in missed])
    return lowest(days // period * usual + more, days)


def is_round(harm, days, missed):
    """Whether two values are a round of misses: so many days, and those of them on which a turning is missed."""
    rota, wheel = harm.rota, harm.wheel
    if not is_whole(days, 1) or days % round_days(rota, wheel) != 0:
        return False
    if not isinstance(missed, tuple) or not all([is_below(day, days) for day in missed]):
        return False
    if sorted(set(missed)) != list(missed) or not all([is_due(rota, wheel, day) for day in missed]):
        return False
    return len(missed) < due_count(rota, wheel, days) and keeps_spans(harm, missed, days)


def keeps_spans(harm, missed, period):
    """Whether no span has more misses than it may have, if turnings are missed on these days of each period."""
    return all([far_item(missed, period, at + harm.misses) - day >= harm.span for at, day in enumerate(missed)])


def harm_by_miss(harm, days, missed, day):
    """How much harm the miss of a day adds in a round, if earlier ones were missed, but no later one."""
    dues, period = round_dues(harm.rota, harm.wheel), round_days(harm.rota, harm.wheel)
    at = due_count(harm.rota, harm.wheel, day)
    made = at - 1
    while far_item(dues, period, made) % days in missed:
        made -= 1
    made_day, later_day = far_item(dues, period, made), far_item(dues, period, at + 1)
    return (harm_between(harm, made_day, later_day)
            - harm_between(harm, made_day, day) - harm_between(harm, day, later_day))


def harm_between(harm, day, later):
    """The harm of the days from a made turning to the day ahead of the next one."""
    # 1 on the first day that is too much, 2 on the next one, and so on.
    beyond = max(0, later - day - harm.limit)
    return beyond * (beyond + 1) // 2


def all_steps(harm):
    """For each stand that can come behind one without misses the steps from it; not if the wheel can lie for ever."""
    found = {}
    ahead = [(day, ()) for day in round_dues(harm.rota, harm.wheel)]
    flags = due_flags(harm)
    while ahead:
        stand = ahead.pop()
        if stand not in found:
            found[stand] = steps_from(harm, flags, stand)
            ahead.extend([later for _, _, later in found[stand]])
    return found


def due_flags(harm):
    """For each day of the wheel's round whether the wheel is due."""
    return [is_due(harm.rota, harm.wheel, day) for day in range(round_days(harm.rota, harm.wheel))]


def steps_from(harm, flags, stand):
    """The steps from a stand, one for each next made turning that is allowed."""
    day, missed = stand
    ago = list(missed)
    steps = []
    later = day
    may_miss = True
    while may_miss:
        later += 1
        ago = [back + 1 for back in ago if back + 1 < harm.span]
        if flags[later % len(flags)]:
            steps.append((later - day, harm_between(harm, day, later), (later % len(flags), tuple(ago))))
            # Otherwise it is missed, too: the last one of the span that ends with it.
            may_miss = len(ago) < harm.misses
            ago = [0] + ago
    return steps


def weigh(harm, steps, value):
    """Weights of the stands that hold for a value, and None; or weights amid, and a round with a greater mean.

    A step is held if the weight behind it is at least that ahead of it, plus q times its harm, less p times its
    days. Weights are raised until all steps are held, or some of them have raised one another round a circle.
    """
    p, q = value
    weights = {stand: 0 for stand in steps}
    raised_by = {}
    raised = True
    while raised:
        raised = False
        for stand in steps:
            for days, harm_then, later in steps[stand]:
                weight = weights[stand] + q * harm_then - p * days
                if weight > weights[later]:
                    weights[later] = weight
                    raised_by[later] = (days, stand)
                    raised = True
        closing = circle_stand(raised_by)
        if closing is not None:
            return weights, circle_round(due_flags(harm), raised_by, closing)
    return weights, None


def circle_stand(raised_by):
    """A stand that was raised by one that was raised .. by itself, or None."""
    walked = {}
    for start in raised_by:
        stand = start
        while stand in raised_by and stand not in walked:
            walked[stand] = start
            stand = raised_by[stand][1]
        if stand in raised_by and walked[stand] == start:
            return stand
    return None


def circle_round(flags, raised_by, closing):
    """The round (days, missed) of the circle of stands that begins and ends with this one."""
    steps = [raised_by[closing]]
    while steps[-1][1] != closing:
        steps.append(raised_by[steps[-1][1]])
    whole = sum([days for days, _ in steps])
    missed = []
    day = closing[0]
    for days, _ in steps[::-1]:
        missed.extend([later % whole for later in range(day + 1, day + days) if flags[later % len(flags)]])
        day += days
    return whole, tuple(sorted(missed))
