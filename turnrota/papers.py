"""Papers: weights of stands that show that no round of misses has a greater mean harm than a value.

Round a circle of stands the weights come to what they were. So if each step raises the weight by no less than q
times its harm, less p times its days, the harm of the circle is at most p / q of its days.
"""

from turnrota.kinds import is_below, is_integer, is_whole
from turnrota.rings import all_steps, due_flags, lies_for_ever, steps_from, weigh


def paper(harm, value):
    """Some right paper for a value, or None if there is none."""
    if lies_for_ever(harm):
        return None
    weights, worse = weigh(harm, all_steps(harm), value)
    if worse is not None:
        return None
    return tuple([(day, missed, weight) for (day, missed), weight in weights.items()])


def paper_holds(harm, value, paper):
    """Whether any value is a right paper for a value of a harm."""
    if lies_for_ever(harm) or not isinstance(paper, tuple):
        return False
    flags = due_flags(harm)
    weights = {}
    for entry in paper:
        if not is_entry(harm, flags, entry):
            return False
        day, missed, weight = entry
        weights[(day, missed)] = weight
    if len(weights) < len(paper) or not all([(day, ()) in weights for day, due in enumerate(flags) if due]):
        return False
    return all([steps_hold(value, weights, stand, steps_from(harm, flags, stand)) for stand in weights])


def is_entry(harm, flags, entry):
    """Whether any value is an entry (day, missed, weight) of a paper."""
    if not isinstance(entry, tuple) or len(entry) != 3:
        return False
    day, missed, weight = entry
    if not is_below(day, len(flags)) or not flags[day] or not is_integer(weight):
        return False
    return is_missed(harm, flags, day, missed)


def is_missed(harm, flags, day, missed):
    """Whether any value tells how many days ahead of a day turnings were missed, in a stand of that day."""
    if not isinstance(missed, tuple) or not all([is_whole(back, 1) and back < harm.span for back in missed]):
        return False
    if sorted(set(missed)) != list(missed) or len(missed) > harm.misses:
        return False
    return all([flags[(day - back) % len(flags)] for back in missed])


def steps_hold(value, weights, stand, steps):
    """Whether each step from a stand leads to one with a weight, and this is not too small."""
    p, q = value
    for days, harm_then, later in steps:
        if later not in weights or weights[later] < weights[stand] + q * harm_then - p * days:
            return False
    return True
