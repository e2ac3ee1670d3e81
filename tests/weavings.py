"""Stores under drawn rows of calls, beside a plain model of what must come of them."""

import itertools

from plugproof.store import fresh_store, open_store


def cells(number):
    """Cells that are unlike for unlike numbers."""
    return (number, -number, 0, 0, 0, 0, 0, 7)


def first_home(plates):
    return {plate: cells(-1 - plate) for plate in range(plates)}


def loose_counts(disk):
    """How many loose versions each plate has that has some."""
    counts = {}
    for plate, _ in disk.loose:
        counts[plate] = counts.get(plate, 0) + 1
    return counts


def all_choices(disk):
    """Every choice for the plates on which something is loose."""
    counts = loose_counts(disk)
    ranges = [range(-1, counts[plate] + 1) for plate in counts]
    return [dict(zip(counts, numbers)) for numbers in itertools.product(*ranges)]


def drawn_choice(draw, disk):
    """One choice: often all of one kind but for a plate or two."""
    counts = loose_counts(disk)
    kind = draw.randrange(4)
    choice = {}
    for plate, many in counts.items():
        if kind == 0 or draw.random() < 0.15:
            choice[plate] = draw.randint(-1, many)
        elif kind < 3:
            choice[plate] = many
    return choice


class Follower:
    """A store, and beside it what it must hold, told by plain means."""

    def __init__(self, store):
        self.store = store
        self.homes = [store.home()]
        self.running = set()
        self.in_ring = 0
        self.pushed = 0
        self.settled = 0
        # For each call: its word, then the events, pushed and settled deeds behind it.
        self.steps = [("made", len(store.trace), 0, 0)]

    def put(self, changes):
        if len(self.running | set(changes)) > self.store.slots:
            self.model_push()
        self.running |= set(changes)
        self.store.put(changes)
        self.homes.append({**self.homes[-1], **changes})
        self.note("put")

    def push(self):
        self.store.push()
        self.model_push()
        self.note("push")

    def sync(self):
        self.store.sync()
        self.model_push()
        self.settled = self.pushed
        self.note("sync")

    def lay(self):
        self.store.lay()
        self.model_lay()
        self.note("lay")

    def model_push(self):
        if not self.running:
            return
        if self.in_ring + len(self.running) > self.store.slots:
            self.model_lay()
        self.in_ring += len(self.running)
        self.running = set()
        self.pushed = len(self.homes) - 1

    def model_lay(self):
        if self.in_ring:
            self.in_ring = 0
            self.settled = self.pushed

    def note(self, word):
        self.steps.append((word, len(self.store.trace), self.pushed, self.settled))

    def drawn_calls(self, draw, most):
        for _ in range(draw.randint(0, most)):
            self.drawn_call(draw)

    def drawn_call(self, draw):
        kind = draw.random()
        if kind < 0.5:
            many = draw.randint(1, min(self.store.plates, self.store.slots))
            plates = draw.sample(range(self.store.plates), many)
            number = 10 * len(self.homes)
            self.put({plate: cells(number + plate) for plate in plates})
        elif kind < 0.75:
            self.push()
        elif kind < 0.9:
            self.sync()
        else:
            self.lay()


def drawn_store(draw, most_slots=4, most_calls=12):
    """A follower of a store made anew, or opened behind a fall of such a one, with some calls done."""
    plates, slots = draw.randint(1, 3), draw.randint(1, most_slots)
    follower = Follower(fresh_store(plates, slots, first_home(plates)))
    for _ in range(draw.randint(0, 2)):
        follower.drawn_calls(draw, most_calls)
        disk = follower.store.disk()
        follower = Follower(open_store(disk.fallen(drawn_choice(draw, disk)), plates, slots))
    follower.drawn_calls(draw, most_calls)
    return follower
