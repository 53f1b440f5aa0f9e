"""Live cellars: seasons whose looks come one by one, and can be taken back."""

from turnrota.deciding import possible, sure_sides
from turnrota.errors import Refused
from turnrota.seasons import is_look


class Live:
    """A season as it stands, with what it tells; `past` are the seasons ahead of each deed."""

    def __init__(self, season):
        self.past = ()
        self.show(season)

    def look(self, day, wheel, side):
        """Adds a look; returns whether some misses fit then."""
        return self.several([(day, wheel, side)])

    def several(self, looks):
        """Adds all these looks, or none if one of them is refused; returns whether some misses fit then."""
        for look in looks:
            if not is_look(look, self.season.wheels, self.season.days):
                raise Refused(look)
        if len(looks) > 0:
            self.follow(self.season.seen(looks))
        return self.is_possible

    def follow(self, season):
        """Goes on with another season."""
        self.past = self.past + (self.season,)
        self.show(season)

    def undo(self):
        """Takes back the last deed; returns whether there was one."""
        if len(self.past) == 0:
            return False
        season = self.past[-1]
        self.past = self.past[:-1]
        self.show(season)
        return True

    def trial(self):
        """A new block for `with`, behind which all is as it was."""
        return Trial(self)

    def within(self, work):
        """What `work` returns for this live cellar; behind it all is as it was."""
        with self.trial() as live:
            return work(live)

    def __len__(self):
        return len(self.past)

    def show(self, season):
        """Holds a season from now on."""
        self.season = season
        self.is_possible = possible(season)
        self.sure = sure_sides(season)


class Trial:
    """A block at whose end a live cellar is as it was when the block was entered."""

    def __init__(self, live):
        self.live = live

    def __enter__(self):
        self.past = self.live.past
        self.season = self.live.season
        self.is_possible = self.live.is_possible
        self.sure = self.live.sure
        return self.live

    def __exit__(self, kind, value, trace):
        self.live.past = self.past
        self.live.season = self.season
        self.live.is_possible = self.is_possible
        self.live.sure = self.sure
