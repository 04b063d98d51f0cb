"""The reader in streams: it tells each piece as early as it can be told."""

from nearreach.readers import Walker


class Stream(Walker):
    """A reader of a table that is fed parts of a text."""

    def settle(self, told):
        """Puts the longest piece to what is told, or stops where there is none; the signs to go over again."""
        if self.last is None:
            return self.stop()
        kind, end = self.last
        told.append((kind, self.start, end))
        return self.go_behind()

    def fault(self):
        """The fault's place where it is stopped, else None."""
        return self.stopped_at()

    def stand(self):
        """(state, start, seen, room, last, kept)."""
        return (self.phase, self.start, self.fed, self.room, self.last, self.rest)

    def twin(self):
        """Another reader that stands as this one does."""
        return resumed(self.table, self.stand())


def resumed(table, stand):
    """A reader of the table that goes on from a stand."""
    stream = Stream(table)
    stream.phase, stream.start, stream.fed, stream.room, stream.last, stream.rest = stand
    # All that was fed to an open reader was gone over.
    stream.at = stream.fed
    return stream
