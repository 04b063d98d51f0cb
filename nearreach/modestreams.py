"""The moded reader: a reader in streams whose pieces open and shut modes."""

from nearreach.hopes import hopes
from nearreach.machines import deed_of, mode_tables, pile_behind
from nearreach.readers import Walker


class ModeStream(Walker):
    """A reader of a machine, from a start, that is fed parts of a text.

    modes is the pile behind the told pieces; tables and hopeful have the tables of all modes and their rooms with hope,
    and what it reads by is always those of the uppermost mode. why tells why it is stopped.
    """

    def __init__(self, machine, start):
        tables = mode_tables(machine)
        Walker.__init__(self, tables[start])
        self.machine = machine
        self.tables = tables
        self.hopeful = [hopes(table) for table in tables]
        self.modes = (start,)
        self.why = None

    def settle(self, told):
        """Puts the longest piece to what is told and does its deed, or stops; the signs to go over again."""
        if self.last is None:
            self.why = "none"
            return self.stop()
        kind, end = self.last
        mode = self.modes[-1]
        pile = pile_behind(self.modes, deed_of(self.machine, mode, kind))
        if pile is None:
            self.why = "low"
            return self.stop()
        told.append((mode, kind, self.start, end))
        self.read_by(pile)
        return self.go_behind()

    def read_by(self, pile):
        """Reads on by the uppermost mode of a pile."""
        self.modes = pile
        self.table = self.tables[pile[-1]]
        self.hope = self.hopeful[pile[-1]]

    def fault(self):
        """(place, why) where it is stopped, else None."""
        place = self.stopped_at()
        return None if place is None else (place, self.why)

    def pile(self):
        """The pile behind the told pieces, the lowest mode first."""
        return self.modes

    def twin(self):
        """Another reader that stands as this one does."""
        other = ModeStream(self.machine, self.modes[0])
        other.read_by(self.modes)
        other.phase, other.start, other.fed, other.why = self.phase, self.start, self.fed, self.why
        other.at, other.room, other.last, other.rest = self.at, self.room, self.last, self.rest
        return other
