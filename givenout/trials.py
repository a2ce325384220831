"""Trials of an office: what is done in one is gone behind it, unless it is kept."""


class Trial:
    """A trial of an office.

    outer: the trial in which it stands, or None; kept: True if what is done in it stays, otherwise None. All else is
    what the office has ahead of it.
    """

    def __init__(self, office):
        self.office = office
        self.outer = None
        self.kept = None
        self.take_down()

    def take_down(self):
        """Keeps what the office has now."""
        office = self.office
        self.state = office.state
        self.rules = office.rules
        self.guards = office.guards
        self.run = office.run
        self.stand = office.stand
        self.memories = office.memories
        self.threads = office.threads
        self.ways = office.ways
        self.out = office.out
        self.journal = office.journal
        self.past = office.past
        self.future = office.future

    def __enter__(self):
        office = self.office
        self.outer = office.innermost
        self.kept = None
        self.take_down()
        office.innermost = self
        return office

    def __exit__(self, kind, value, trace):
        office = self.office
        office.innermost = self.outer
        if kind is not None or self.kept is None:
            office.state = self.state
            office.rules = self.rules
            office.guards = self.guards
            office.run = self.run
            office.stand = self.stand
            office.memories = self.memories
            office.threads = self.threads
            office.ways = self.ways
            office.out = self.out
            office.journal = self.journal
            office.past = self.past
            office.future = self.future
