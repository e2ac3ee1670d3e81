"""A store that never falls, for those who ask how a system works and not what a disk does."""


class PlainStore:
    """All homes so far: the one handed in, and that behind each deed; `settled` counts up to the last sync."""

    def __init__(self, home):
        self.homes = [dict(home)]
        self.settled = 0

    def home(self):
        """A new dict from the home plates to their cells, behind all deeds."""
        return dict(self.homes[-1])

    def put(self, changes):
        """One deed: cells for some home plates."""
        # As in a store on a disk, what changes no plate is no deed.
        if len(changes) == 0:
            return
        home = self.home()
        for plate in changes:
            home[plate] = changes[plate]
        self.homes.append(home)

    def sync(self):
        """All deeds so far are settled."""
        self.settled = len(self.homes) - 1
