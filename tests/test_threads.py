from unittest import mock

from givenout import threads as module
from givenout.errors import TooMany
from givenout.houses import House
from givenout.keeping import words_of
from givenout.rules import Rules
from givenout.threads import Threads, few_spread, threads_behind
from givenout.walks import Walks
from givenout.ways import walks_by
from tests import naive_ways
from tests.helpers import BIG, BIG_ASK, SMALL, Case
from tests.made import some

HOUSE = House(SMALL)
NUMBER = Rules(HOUSE, "reader r\n  kind k\n    number w")
BY_A = ("done", "x", "a", None)


def threads_of(rules, pool, secrets, ways):
    """All threads that come of the first case."""
    return Threads(walks_by(rules, pool, secrets, ways), words_of(secrets), (0,))


class BehindTest(Case):

    def test_what_comes_directly_behind(self):
        walks = Walks(NUMBER, ("r",), (BY_A,))
        behind = threads_behind(walks, few_spread(walks, (0,)))
        self.same(behind, {1: (1, 2)})
        self.same([walks.cases[number][2] for number in behind[1]], [((True,),), ((False,),)])
        # Behind this the night is not seen, so it is in the lore, and all that is given then.
        lore = few_spread(walks, behind[1])
        self.same(len(lore), 4)
        self.same(sorted([len(row) for row in threads_behind(walks, lore).values()]), [2, 2])

    def is_refused(self, limit, walks):
        with self.assertRaises(TooMany) as caught:
            few_spread(walks, (0,))
        self.same(caught.exception.number, limit)

    def test_lores_with_more_cases_than_are_looked_at(self):
        walks = Walks(Rules(House(BIG), "reader r"), ("r",), (BIG_ASK,))
        self.is_refused(2000, walks)
        walks = Walks(Rules(House(BIG), "reader r"), ("r",), ())
        for limit in (255, 256):
            with mock.patch.object(module, "LIMIT", limit):
                if limit == 255:
                    self.is_refused(255, walks)
                else:
                    self.same(len(few_spread(walks, (0,))), 256)


class ThreadsTest(Case):

    def test_all_threads_by_any_ways(self):
        for made in some(200):
            pool, secrets = made.pool(), made.secrets()
            ways = made.ways(pool)
            threads, plain = threads_of(made.rules, pool, secrets, ways), naive_ways.Threads(made.rules, pool, secrets,
                                                                                             ways)
            cases = threads.walks[0].cases
            told = [frozenset([cases[number] for number in row]) for row in threads.rows]
            self.assertEqual(told[0], plain.first)
            self.assertEqual(set(told), set(plain.looks))
            self.same(len(told), len(plain.looks))
            shown = list(threads.walks[0].parts)
            for thread, outs, nexts in zip(told, threads.outs, threads.nexts):
                for (_, out, behind), first, after in zip(plain.looks[thread], outs, nexts):
                    self.same(first, out[0] if out else -1)
                    self.assertEqual({shown[part]: told[number] for part, number in after.items()}, behind)

    def test_a_thread_may_begin_anywhere(self):
        walks = walks_by(NUMBER, ("r",), ((BY_A, "yes"),), ())
        behind = [walks[0].number_of((((0,), 1), (((who,), (), (0,)),), ((who == "a",),))) for who in "ab"]
        threads = Threads(walks, ["yes"], tuple(behind))
        self.same((threads.rows, threads.outs, threads.nexts), ([tuple(behind)], [[-1]], [[{}]]))
        threads = Threads(walks, ["yes"], tuple(behind[:1]))
        self.same((threads.outs, threads.nexts), ([[0]], [[{}]]))

    def test_the_limit_itself(self):
        ways = ((), (("blank", "r", "k", "w"),), (("daily", "r"),))
        many = len(threads_of(NUMBER, ("r",), ((BY_A, "yes"),), ways).rows)
        self.assertGreater(many, 5)
        for limit in (many - 1, many):
            with mock.patch.object(module, "LIMIT", limit):
                if limit < many:
                    self.refuses(TooMany, limit, threads_of, NUMBER, ("r",), ((BY_A, "yes"),), ways)
                else:
                    self.same(len(threads_of(NUMBER, ("r",), ((BY_A, "yes"),), ways).rows), many)
