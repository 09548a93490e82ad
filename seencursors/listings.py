"""Listings of a desk."""


class Listing:
    """A listing.

    It has the cursor of its next call, END if it has ended; since, how many keys had been put into the table when it
    began; stages, the list of those of the table at its calls; and counts, a dict from the names that it has told to
    how often.
    """

    def __init__(self, since):
        self.cursor = 0
        self.since = since
        self.stages = []
        self.counts = {}

    def tell(self, stage, told, number):
        """Make a call at a stage of the table that tells some names and goes on with a number."""
        self.stages.append(stage)
        for name in told:
            self.counts[name] = self.counts.get(name, 0) + 1
        self.cursor = number

    def take_back(self, told, cursor):
        """Take back the last call, that was made with a cursor and told some names."""
        self.stages.pop()
        for name in told:
            self.counts[name] -= 1
            if self.counts[name] == 0:
                del self.counts[name]
        self.cursor = cursor

    def copy(self):
        """An independent listing in the same state."""
        other = Listing(self.since)
        other.cursor = self.cursor
        other.stages = list(self.stages)
        other.counts = {name: self.counts[name] for name in self.counts}
        return other
