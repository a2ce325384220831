from unittest import mock

from givenout import trees as module
from givenout.trees import Trees
from tests import naive_ways
from tests.helpers import Case
from tests.made import some
from tests.test_threads import threads_of


class Plain:
    """Threads that are told by hand: outs and nexts alone."""

    def __init__(self, outs, nexts):
        self.outs, self.nexts = outs, nexts
        self.rows = [(number,) for number in range(len(outs))]
        self.walks = [self for _ in outs[0]]
        self.parts = {"unseen": 0, "one": 1, "other": 2}


class TreesTest(Case):

    def test_by_hand(self):
        # The last thread is safe, the last but one is out by both ways.
        outs = [[-1, -1], [-1, 1], [0, -1], [2, 0], [-1, -1]]
        nexts = [[{1: 2, 2: 4}, {1: 1, 2: 3}], [{1: 3}, {}], [{}, {1: 1}], [{1: 4}, {}], [{}, {1: 0}]]
        trees = Trees(Plain(outs, nexts))
        self.same(trees.sizes, {3: 2, 1: 4, 2: 6, 0: 10})
        end = (("out", 2), ("out", 0))
        first = (("shows", "one", end), ("out", 1))
        second = (("out", 0), ("shows", "one", first))
        self.same(trees.tree(), (("shows", "one", second), ("shows", "other", end)))
        self.same([trees.way_of(number) for number in range(5)], [-1, -1, -1, -1, 0])

    def test_rings_are_safe(self):
        trees = Trees(Plain([[-1, -1], [0, -1], [0, 0]], [[{1: 1}, {1: 2}], [{}, {1: 0}], [{}, {}]]))
        self.same(trees.sizes, {2: 2})
        self.same([trees.way_of(number) for number in range(3)], [0, 1, -1])

    def test_the_first_way_that_is_good(self):
        trees = Trees(Plain([[0, -1, -1], [0, 0, 0]], [[{}, {1: 1}, {1: 0}], [{}, {}, {}]]))
        self.same([trees.is_good(0, way) for way in range(3)], [False, False, True])
        self.same(trees.way_of(0), 2)

    def test_least_trees(self):
        sizes = {}
        for made in some(250):
            pool, secrets = made.pool(), made.secrets()
            ways = made.ways(pool)
            threads, plain = threads_of(made.rules, pool, secrets, ways), naive_ways.Threads(made.rules, pool, secrets,
                                                                                             ways)
            cases = threads.walks[0].cases
            told = [frozenset([cases[number] for number in row]) for row in threads.rows]
            trees = Trees(threads)
            self.assertEqual({told[number]: size for number, size in trees.sizes.items()}, plain.sizes)
            self.same([trees.way_of(number) for number in range(len(told))],
                      [-1 if thread in plain.sizes else plain.way(thread) for thread in told])
            if 0 in trees.sizes:
                self.same(naive_ways.parts_of(trees.tree()), trees.sizes[0])
                sizes[trees.sizes[0]] = True
        self.assertGreater(len(sizes), 8)

    def test_sizes_beyond_the_limit(self):
        # Each thread comes of the one ahead of it by each of five ways.
        many = 12
        outs = [[-1] * 5] * (many - 1) + [[0] * 5]
        nexts = [[{1: number + 1}] * 5 for number in range(many - 1)] + [[{}] * 5]
        self.same([Trees(Plain(outs, nexts)).sizes[number] for number in (11, 10, 9, 8, 7, 0)],
                  [5, 30, 155, 780, 2001, 2001])
        for limit in (779, 780):
            with mock.patch.object(module, "LIMIT", limit):
                self.same(Trees(Plain(outs, nexts)).sizes[8], min(limit + 1, 780))

    def test_trees_deeper_than_calls_may_stand(self):
        many = 1900
        outs = [[-1]] * (many - 1) + [[0]]
        nexts = [[{1: number + 1}] for number in range(many - 1)] + [[{}]]
        trees = Trees(Plain(outs, nexts))
        self.same(trees.sizes[0], many)
        tree, depth = trees.tree(), 1
        while tree[0][0] == "shows":
            tree, depth = tree[0][2], depth + 1
        self.same(depth, many)
