"""The reader with notes: it never goes the same way in vain twice."""

from nearreach.readers import Reader
from nearreach.tables import room_from


class Noter(Reader):
    """A reader of a table that notes the rooms and places from which no piece was found.

    text is all that was fed; room and at tell where it stands, found is the (kind, end) of the piece found so far,
    trail the rooms and places gone to since, noted has the notes, and gone is the count of goes.
    """

    def __init__(self, table):
        Reader.__init__(self, table)
        self.text = ""
        self.noted = {}
        self.gone = 0
        self.begin(0)

    def begin(self, place):
        """Stands at the beginning of a piece."""
        self.start = place
        self.at = place
        self.room = 0
        self.found = None
        self.trail = []

    def feed(self, part):
        """The list of the pieces that are newly settled; Closed, Stopped, NoText."""
        self.take(part)
        self.text += part
        return self.read(False)

    def close(self):
        """The list of all pieces of the cut that weren't told; Closed, Stopped."""
        self.look_ended()
        told = self.read(True)
        if self.phase == "open":
            self.phase = "closed"
        return told

    def read(self, closing):
        """The list of the pieces that are settled by what was fed, and, where closing, by the text's end."""
        told = []
        # Where no sign stands at a piece's beginning it waits, whatever the room.
        while self.phase == "open" and self.start < self.fed:
            self.go_on()
            if self.leads_on() and not closing:
                break
            self.settle(told)
        return told

    def leads_on(self):
        """True just where the room has hope, and the room and the place aren't noted."""
        return self.hope[self.room] and (self.room, self.at) not in self.noted

    def go_on(self):
        """Takes all goes that can be taken."""
        while self.at < self.fed and self.leads_on():
            self.room = room_from(self.table, self.room, self.text[self.at])
            self.at += 1
            self.gone += 1
            kind = self.table[2][self.room]
            if kind != -1:
                self.found = (kind, self.at)
                self.trail = []
            else:
                self.trail.append((self.room, self.at))

    def settle(self, told):
        """Notes the trail, and puts the piece found to what is told, or stops where there is none."""
        for note in self.trail:
            self.noted[note] = True
        if self.found is None:
            self.phase = "stopped"
            return
        kind, end = self.found
        told.append((kind, self.start, end))
        self.begin(end)

    def fault(self):
        """The fault's place where it is stopped, else None."""
        return self.stopped_at()

    def kept(self):
        """The signs that were fed behind the longest stretch with a kind."""
        # One that is closed or stopped has nothing found either.
        if self.found is None:
            return ""
        kind, end = self.found
        return self.text[end:]

    def work(self):
        """The count of goes taken so far."""
        return self.gone

    def notes(self):
        """The count of unlike notes."""
        return len(self.noted)
