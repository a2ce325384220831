from givenout.asks import answer
from givenout.giving import view
from givenout.pairs import Pairs, in_order, pair_steps
from givenout.stands import led
from givenout.walks import Walks
from tests.helpers import Case
from tests.made import Made, some
from tests.naive import Naive


class PairsTest(Case):

    def test_order(self):
        self.same([in_order(1, 2), in_order(2, 1), in_order(1, 1)], [(1, 2), (1, 2), (1, 1)])

    def test_steps_of_pairs(self):
        for made in some(40):
            pool = made.pool()
            walks, naive = Walks(made.rules, pool, ()), Naive(made.rules, pool, ())
            for pair in ((0, 0), (0, walks.steps_of(0)[0][2])):
                steps = [(len([move for move in moves if move is not None]),
                          tuple(sorted([walks.cases[one], walks.cases[other]])))
                         for moves, one, other in pair_steps(walks, pair)]
                told = naive.next_pairs((walks.cases[pair[0]], walks.cases[pair[1]]))
                self.assertEqual(set(steps), set(told))

    def test_runs_lead_to_pairs(self):
        for made in some(40):
            pool, ask = made.pool(), made.ask()
            walks = Walks(made.rules, pool, (ask,))
            pairs = Pairs(walks)
            last = {}
            for length in range(5):
                pairs.take_nearer()
                for pair in pairs.fresh:
                    self.assertNotIn(pair, last)
                    last[pair] = length
                pairs.look_ahead()
            for pair, length in list(last.items())[::5]:
                runs = pairs.runs_to(pair)
                self.same(len(runs[0]) + len(runs[1]), length)
                self.same(view(made.rules, pool, runs[0]), view(made.rules, pool, runs[1]))
                for run, number in zip(runs, pair):
                    self.same(led(made.house, run)[0], walks.cases[number][0])
                    self.same((answer(made.house, run, ask),), walks.answers_of(number))

    def test_all_pairs_in_sequence(self):
        pairs = Pairs(Walks(Made(3).rules, Made(3).rules.readers, ()))
        while not pairs.is_done():
            pairs.take_nearer()
            pairs.look_ahead()
        table = pairs.told()
        self.same(table, tuple(sorted(table)))
        self.same(len(table), len(pairs.sources))
        self.assertTrue(all([one <= other for one, other in table]))
