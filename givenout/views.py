"""Views: whether runs have them, and runs that do."""

from givenout.forms import is_part
from givenout.trails import trail_to
from givenout.walks import UNSEEN, Walks


def is_view(rules, pool, value):
    """Whether the value is the view of some run, of whatever length."""
    if not isinstance(value, tuple) or not all([is_part(rules.house, pool, part) for part in value]):
        return False
    walks = Walks(rules, pool, ())
    parts = walks.parts_of(value)
    seen = {(0, 0): True}
    ahead = [(0, 0)]
    while ahead != []:
        number, done = ahead.pop()
        if done == len(parts):
            return True
        # Those that show the next part stand behind, so that they are looked at first.
        pairs = [(behind, done) for behind in walks.behind(number, UNSEEN)]
        for pair in pairs + [(behind, done + 1) for behind in walks.behind(number, parts[done])]:
            if pair not in seen:
                seen[pair] = True
                ahead.append(pair)
    return False


def runs_to_answers(walks, parts):
    """For each answer to the only ask that some run with this view gives, ascending, (answer, such a run)."""
    sources = {(0, 0): None}
    ahead = [(0, 0)]
    ends = {}
    while ahead != []:
        fresh = []
        for number, done in ahead:
            if done == len(parts):
                ends.setdefault(walks.answers_of(number)[0], (number, done))
            for move, part, behind in walks.steps_of(number):
                place = (behind, done if part == UNSEEN else done + 1)
                is_led = part == UNSEEN or (done < len(parts) and part == parts[done])
                if is_led and place not in sources:
                    sources[place] = ((number, done), move)
                    fresh.append(place)
        ahead = fresh
    return tuple([(given, trail_to(sources, ends[given])) for given in sorted(ends)])
