"""What readers of texts that come in parts have in common."""

from nearreach.errors import Closed, Stopped
from nearreach.hopes import hopes
from nearreach.tables import looked_text, room_from


class Reader:
    """A reader of a table.

    phase is its state, start the end of the last told piece, fed how many signs it was fed; hope tells the rooms with
    hope.
    """

    def __init__(self, table):
        self.table = table
        self.hope = hopes(table)
        self.phase = "open"
        self.start = 0
        self.fed = 0

    def state(self):
        """One of the texts open, closed, stopped."""
        return self.phase

    def seen(self):
        """How many signs were fed."""
        return self.fed

    def stopped_at(self):
        """The place where it stopped, or None where it isn't stopped."""
        return self.start if self.phase == "stopped" else None

    def look_ended(self):
        """Closed, Stopped where it goes on no more."""
        if self.phase == "closed":
            raise Closed("the reader is closed")
        if self.phase == "stopped":
            raise Stopped("the reader is stopped")

    def take(self, part):
        """Counts the signs of a part, whatever it is; Closed, Stopped, NoText."""
        self.look_ended()
        self.fed += len(looked_text(self.table[0], part))


class Walker(Reader):
    """A reader that keeps only the signs that may have to be gone over again.

    room is the room behind the signs from start to at, last the (kind, end) of the longest stretch with a kind among
    them, and rest the signs behind that stretch. What becomes of that stretch when it is settled is told by the method
    settle of the classes under this one.
    """

    def __init__(self, table):
        Reader.__init__(self, table)
        self.begin(0)

    def begin(self, place):
        """Stands at the beginning of a piece."""
        self.start = place
        self.at = place
        self.room = 0
        self.last = None
        self.rest = ""

    def feed(self, part):
        """The list of the pieces that are newly settled; Closed, Stopped, NoText."""
        self.take(part)
        return self.read(part)

    def close(self):
        """The list of all pieces of the cut that weren't told; Closed, Stopped."""
        self.look_ended()
        told = []
        while self.phase == "open" and self.start < self.fed:
            again = self.settle(told)
            told.extend(self.read(again))
        if self.phase == "open":
            self.phase = "closed"
        return told

    def read(self, signs):
        """The list of the pieces that are settled by the signs that stand from at on."""
        told = []
        left = signs
        while left != "" and self.phase == "open":
            self.go(left[0])
            left = left[1:]
            if not self.hope[self.room]:
                left = self.settle(told) + left
        return told

    def go(self, sign):
        """Goes over one sign."""
        self.at += 1
        self.room = room_from(self.table, self.room, sign)
        kind = self.table[2][self.room]
        if kind != -1:
            self.last = (kind, self.at)
            self.rest = ""
        elif self.last is not None:
            self.rest += sign

    def go_behind(self):
        """Stands behind the longest stretch with a kind; the signs to go over again."""
        kind, end = self.last
        again = self.rest
        self.begin(end)
        return again

    def stop(self):
        """Stops where the piece would begin; no signs are gone over again."""
        self.phase = "stopped"
        self.begin(self.start)
        return ""

    def kept(self):
        """The signs that were fed behind the longest stretch with a kind."""
        return self.rest
