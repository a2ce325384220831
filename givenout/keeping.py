"""Keeping: whether secrets can ever come out."""

from givenout.asks import is_formula
from givenout.checks import is_run
from givenout.errors import BadPool, BadSecrets
from givenout.forms import is_from, is_tuple_of
from givenout.giving import is_pool, view_of
from givenout.lores import LIMIT, WORDS, Lores, answers_in, first_out, is_out
from givenout.members import Members
from givenout.proofs import Table, are_lores, are_members, hold_all, numbers_of
from givenout.walks import Walks

MOST_SECRETS = 3


def are_secrets(house, value):
    """Whether the value is a tuple of one to three secrets."""
    if not isinstance(value, tuple) or not 1 <= len(value) <= MOST_SECRETS:
        return False
    return all([is_tuple_of(secret, 2) and is_formula(house, secret[0]) and secret[1] in WORDS for secret in value])


def need_secrets(rules, pool, secrets):
    """Refuses what is no pool, then what are no secrets."""
    if not is_pool(rules, pool):
        raise BadPool(pool)
    if not are_secrets(rules.house, secrets):
        raise BadSecrets(secrets)


def walks_of(rules, pool, secrets):
    """The walks for the formulas of the secrets."""
    return Walks(rules, pool, tuple([formula for formula, _ in secrets]))


def words_of(secrets):
    """The words of the secrets."""
    return [word for _, word in secrets]


def member_out(members):
    """The number of the first of those members that came last in the lore of which a secret is out, None for none."""
    lores = members.lores
    looked = {}
    for number in members.fresh:
        _, lore = members.pairs[number]
        if lore not in looked:
            looked[lore] = first_out(lores.walks, lores.words, lores.rows[lore])
            if looked[lore] >= 0:
                return number
    return None


def told_out(members, number):
    """What is told of a member in the lore of which a secret is out."""
    lores = members.lores
    walks = lores.walks
    run = members.run_to(number)
    rows = [lores.rows[lore] for lore in lores.led(0, walks.parts_of(view_of(walks.rules, walks.pool, run)))]
    return ("out", run, first_out(walks, lores.words, rows[-1]), tuple([walks.told(row) for row in rows]))


def looked_at(rules, pool, secrets):
    """As kept, of a pool and secrets that surely are such."""
    members = Members(Lores(walks_of(rules, pool, secrets), words_of(secrets), LIMIT))
    while members.fresh != []:
        number = member_out(members)
        if number is not None:
            return told_out(members, number)
        members.need_few()
        members.go_on()
    return ("kept",) + members.table()


def kept(rules, pool, secrets):
    """Whether the secrets are kept from the pool for ever: what shows it, or else a run behind which one is out."""
    need_secrets(rules, pool, secrets)
    return looked_at(rules, pool, secrets)


def shows_out(walks, secrets, run, number, lores):
    """Whether the secret of this number is out behind the run, by these lores."""
    if not is_run(walks.rules.house, run) or not is_from(number, 0, len(secrets)):
        return False
    if not hold_all(walks, walks.parts_of(view_of(walks.rules, walks.pool, run)), lores):
        return False
    last = numbers_of(walks, lores)[-1]
    return is_out(secrets[number][1], answers_in(walks, number, last))


def shows_table(walks, secrets, lores, members):
    """Whether lores and members show that no secret is ever out."""
    if not are_lores(walks, lores) or not are_members(walks, members, len(lores)):
        return False
    words = words_of(secrets)
    if not all([first_out(walks, words, numbers) < 0 for numbers in numbers_of(walks, lores)]):
        return False
    return Table(walks, lores, members).is_closed()


def shows_looked(rules, pool, secrets, value):
    """As shows_kept, of a pool and secrets that surely are such."""
    walks = walks_of(rules, pool, secrets)
    if is_tuple_of(value, 4) and value[0] == "out":
        return shows_out(walks, secrets, value[1], value[2], value[3])
    if is_tuple_of(value, 3) and value[0] == "kept":
        return shows_table(walks, secrets, value[1], value[2])
    return False


def shows_kept(rules, pool, secrets, value):
    """Whether the value shows that the secrets are kept, or that they are not."""
    need_secrets(rules, pool, secrets)
    return shows_looked(rules, pool, secrets, value)
