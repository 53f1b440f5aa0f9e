"""The kinds of values that several modules ask for."""

from math import gcd


def is_integer(value):
    """Whether any value is an integer."""
    # Python takes True and False for integers, the document does not.
    return isinstance(value, int) and not isinstance(value, bool)


def is_whole(value, least):
    """Whether any value is an integer from `least` on."""
    return is_integer(value) and value >= least


def is_below(value, many):
    """Whether any value is an integer from 0 to `many` - 1."""
    return is_whole(value, 0) and value < many


def is_sequence(value):
    """Whether any value is a list or a tuple."""
    return isinstance(value, (list, tuple))


def is_numeral(word):
    """Whether a word is a number as texts have them: one or two digits, no leading zero."""
    # The comparison refuses leading zeros, and the digits of other scripts, which isdecimal lets pass.
    return word.isdecimal() and len(word) <= 2 and word == str(int(word))


def lowest(part, whole):
    """The value of the fraction part / whole: a pair in lowest terms."""
    common = gcd(part, whole)
    return part // common, whole // common
