"""Records: the lines of journals."""

from givenout.texts import show_move, write_ask, write_change


def below(text, depth):
    """The lines of a text, so deep."""
    return ["  " * depth + line for line in text.split("\n")]


def guard_lines(guard):
    """The lines of a guard."""
    pool, secrets, ways = guard
    lines = [" ".join(("guard",) + pool)]
    lines.extend(["  secret " + word + " " + write_ask(formula) for formula, word in secrets])
    for way in ways:
        lines.append("  way")
        lines.extend(["    " + write_change(change) for change in way])
    return lines


def head_of(rules, guards):
    """The journal of an office that began with these rules and guards, ahead of all moves."""
    lines = ["house"] + below(rules.house.text, 1) + ["rules"] + below(rules.text, 1)
    for guard in guards:
        lines.extend(guard_lines(guard))
    return "\n".join(lines + ["run"])


def move_lines(move):
    """What a move adds to a journal."""
    return "\n  " + show_move(move)


def rules_lines(rules):
    """What a change to these rules adds to a journal."""
    return "\n".join(["", "  rules"] + below(rules.text, 2))
