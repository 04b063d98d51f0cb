"""The reader in streams: it tells each piece as early as it can be told."""

from nearreach.readers import Reader
from nearreach.tables import room_from


class Stream(Reader):
    """A reader of a table that is fed parts of a text.

    room is the room behind the signs from start to at, last the (kind, end) of the longest stretch with a kind among
    them, and rest the signs behind that stretch: they alone may have to be gone over again.
    """

    def __init__(self, table):
        Reader.__init__(self, table)
        self.begin(0)

    def begin(self, place):
        """Stands at the beginning of a piece."""
        self.start = place
        self.at = place
        self.room = 0
        self.last = None
        self.rest = ""

    def feed(self, part):
        """The list of the pieces that are newly settled; Closed, Stopped, NoText."""
        self.take(part)
        return self.read(part)

    def close(self):
        """The list of all pieces of the cut that weren't told; Closed, Stopped."""
        self.look_ended()
        told = []
        while self.phase == "open" and self.start < self.fed:
            again = self.settle(told)
            told.extend(self.read(again))
        if self.phase == "open":
            self.phase = "closed"
        return told

    def read(self, signs):
        """The list of the pieces that are settled by the signs that stand from at on."""
        told = []
        left = signs
        while left != "" and self.phase == "open":
            self.go(left[0])
            left = left[1:]
            if not self.hope[self.room]:
                left = self.settle(told) + left
        return told

    def go(self, sign):
        """Goes over one sign."""
        self.at += 1
        self.room = room_from(self.table, self.room, sign)
        kind = self.table[2][self.room]
        if kind != -1:
            self.last = (kind, self.at)
            self.rest = ""
        elif self.last is not None:
            self.rest += sign

    def settle(self, told):
        """Puts the longest piece to what is told, or stops where there is none; the signs to go over again."""
        if self.last is None:
            self.phase = "stopped"
            self.begin(self.start)
            return ""
        kind, end = self.last
        told.append((kind, self.start, end))
        again = self.rest
        self.begin(end)
        return again

    def kept(self):
        """The signs that were fed behind the longest stretch with a kind."""
        return self.rest

    def stand(self):
        """(state, start, seen, room, last, kept)."""
        return (self.phase, self.start, self.fed, self.room, self.last, self.rest)

    def twin(self):
        """Another reader that stands as this one does."""
        return resumed(self.table, self.stand())


def resumed(table, stand):
    """A reader of the table that goes on from a stand."""
    stream = Stream(table)
    stream.phase, stream.start, stream.fed, stream.room, stream.last, stream.rest = stand
    # All that was fed to an open reader was gone over.
    stream.at = stream.fed
    return stream
