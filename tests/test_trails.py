from givenout.trails import trail_to
from tests.helpers import Case


class TrailsTest(Case):

    def test_the_moves_that_lead_there(self):
        sources = {"a": None, "b": ("a", 1), "c": ("b", 2), "d": ("b", 3), "e": ("d", 1)}
        self.same([trail_to(sources, place) for place in "abcde"], [(), (1,), (1, 2), (1, 3), (1, 3, 1)])
        self.same(trail_to([None, (0, "x"), (1, "y")], 2), ("x", "y"))
