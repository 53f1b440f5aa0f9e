"""Rotas: which places are turned on each day, and where the wheels go then."""

from turnrota.errors import InvalidRota, InvalidText
from turnrota.kinds import is_below, is_numeral, is_sequence, is_whole


class Rota:
    """A number of places, and rows (turned, moves), one for each day, that are done round and round."""

    def __init__(self, places, rows):
        if not is_whole(places, 1):
            raise InvalidRota("places")
        if not are_rows(rows, places):
            raise InvalidRota("rows")
        self.places = places
        self.rows = tuple([(tuple(sorted(turned)), tuple(moves)) for turned, moves in rows])

    @classmethod
    def read(cls, text):
        """The rota that a text, as `str` gives it, tells."""
        if not isinstance(text, str):
            raise InvalidText(0)
        head, *lines = text.split("\n")
        places = places_told(head)
        if places is None:
            raise InvalidText(0)
        rows = []
        for at, line in enumerate(lines, start=1):
            row = row_told(line)
            if row is None:
                raise InvalidText(at)
            rows.append(row)
        return cls(places, rows)

    def __len__(self):
        return len(self.rows)

    def __str__(self):
        return "\n".join([f"places {self.places}"] + [row_line(turned, moves) for turned, moves in self.rows])

    def __eq__(self, other):
        return isinstance(other, Rota) and self.places == other.places and self.rows == other.rows


def are_rows(rows, places):
    """Whether any value is a sequence of at least one row for so many places."""
    return is_sequence(rows) and len(rows) > 0 and all([is_row(row, places) for row in rows])


def is_row(row, places):
    """Whether any value is a pair (turned, moves) for so many places."""
    if not isinstance(row, tuple) or len(row) != 2:
        return False
    turned, moves = row
    return are_spots(turned, places) and are_spots(moves, places) and len(moves) == places


def are_spots(spots, places):
    """Whether any value is a sequence of unlike places."""
    if not is_sequence(spots) or not all([is_below(spot, places) for spot in spots]):
        return False
    return len(set(spots)) == len(spots)


def row_line(turned, moves):
    """The line of a row in the text of a rota."""
    told = spaced(turned) if turned else "none"
    return f"turn {told} move {spaced(moves)}"


def spaced(numbers):
    """Numbers as words, with single spaces between."""
    return " ".join([str(number) for number in numbers])


def places_told(line):
    """The number of places that the first line of a text tells, or None if it is not of its form."""
    words = line.split(" ")
    if len(words) != 2 or words[0] != "places" or not is_numeral(words[1]):
        return None
    return int(words[1])


def row_told(line):
    """The row that a line of a text tells, or None if the line is not of its form."""
    words = line.split(" ")
    if words[0] != "turn" or "move" not in words:
        return None
    middle = words.index("move")
    turned, moves = words[1:middle], words[middle + 1:]
    if not are_numerals(moves):
        return None
    if turned == ["none"]:
        return (), numbers_told(moves)
    return (numbers_told(turned), numbers_told(moves)) if are_numerals(turned) else None


def are_numerals(words):
    """Whether there is at least one word, and each is a number."""
    return len(words) > 0 and all([is_numeral(word) for word in words])


def numbers_told(words):
    """The numbers that words tell."""
    return tuple([int(word) for word in words])
