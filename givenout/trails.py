"""Trails: the moves by which something was come to."""


def trail_to(sources, place):
    """The moves that lead to a place, by (place ahead, move) for each place, None for the one that all comes of."""
    moves = []
    while sources[place] is not None:
        place, move = sources[place]
        moves.append(move)
    return tuple(moves[::-1])
