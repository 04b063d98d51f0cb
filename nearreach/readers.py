"""What readers of texts that come in parts have in common."""

from nearreach.errors import Closed, Stopped
from nearreach.hopes import hopes
from nearreach.tables import looked_text


class Reader:
    """A reader of a table.

    phase is its state, start the end of the last told piece, fed how many signs it was fed; hope tells the rooms with
    hope.
    """

    def __init__(self, table):
        self.table = table
        self.hope = hopes(table)
        self.phase = "open"
        self.start = 0
        self.fed = 0

    def state(self):
        """One of the texts open, closed, stopped."""
        return self.phase

    def seen(self):
        """How many signs were fed."""
        return self.fed

    def fault(self):
        """The fault's place where it is stopped, else None."""
        return self.start if self.phase == "stopped" else None

    def look_ended(self):
        """Closed, Stopped where it goes on no more."""
        if self.phase == "closed":
            raise Closed("the reader is closed")
        if self.phase == "stopped":
            raise Stopped("the reader is stopped")

    def take(self, part):
        """Counts the signs of a part, whatever it is; Closed, Stopped, NoText."""
        self.look_ended()
        self.fed += len(looked_text(self.table[0], part))
