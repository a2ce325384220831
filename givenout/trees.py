"""Trees: which threads are not safe, and why."""

from heapq import heappop, heappush

from givenout.lores import LIMIT


class Trees:
    """Which of the threads are not safe, and the least trees that show it.

    sizes: for each thread that is not safe, those with lesser trees first, how many parts its least tree has, LIMIT + 1
    for more; costs: for each thread, by ways, how many of them this way takes, 0 while it is not known; picks: for each
    (thread, way) by which no secret is out, the thread behind it with the least tree; sources: for each thread the
    (thread, way) of which it comes; ahead: the threads that are not safe of which this was not followed up yet.
    """

    def __init__(self, threads):
        self.threads = threads
        self.sizes = {}
        self.costs = [[1 if out >= 0 else 0 for out in outs] for outs in threads.outs]
        self.picks = {}
        self.sources = [[] for _ in threads.rows]
        self.ahead = []
        for number in range(len(threads.rows)):
            self.put_down(number)
            self.take_in(number)
        while self.ahead != []:
            self.follow_up()

    def put_down(self, number):
        """Keeps of which thread those come that come behind it."""
        for way, behind in enumerate(self.threads.nexts[number]):
            for after in behind.values():
                self.sources[after].append((number, way))

    def take_in(self, number):
        """Keeps that a thread is not safe if that is known of all ways."""
        if 0 not in self.costs[number]:
            heappush(self.ahead, (min(sum(self.costs[number]), LIMIT + 1), number))

    def follow_up(self):
        """Finds out what comes of the thread with the least tree of those that were not followed up."""
        size, number = heappop(self.ahead)
        self.sizes[number] = size
        for source, way in self.sources[number]:
            if self.costs[source][way] == 0:
                self.costs[source][way] = size + 1
                self.picks[(source, way)] = number
                self.take_in(source)

    def is_good(self, number, way):
        """Whether by the way no secret is out in the lore of a thread, and all threads behind it are safe."""
        behind = self.threads.nexts[number][way]
        return self.threads.outs[number][way] < 0 and not any([after in self.sizes for after in behind.values()])

    def way_of(self, number):
        """The way of a thread, -1 if it is not safe."""
        for way in range(len(self.threads.walks)):
            if self.is_good(number, way):
                return way
        return -1

    def branch(self, number, way, shown, trees):
        """What a tree of a thread tells of a way; shown: what can be shown; trees: those of the threads behind it."""
        out = self.threads.outs[number][way]
        if out >= 0:
            return ("out", out)
        pick = self.picks[(number, way)]
        parts = [part for part, after in self.threads.nexts[number][way].items() if after == pick]
        return ("shows", shown[parts[0]], trees[pick])

    def tree(self):
        """The least tree of the first thread, which is not safe."""
        # What is shown has the same numbers by all ways.
        shown = list(self.threads.walks[0].parts)
        trees = {}
        for number in self.sizes:
            # All of which this tree is made stand ahead of it.
            trees[number] = tuple([
                self.branch(number, way, shown, trees) for way in range(len(self.threads.walks))])
            if number == 0:
                break
        return trees[0]
