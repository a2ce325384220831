"""Cheapest: the cheapest changes of rules by which secrets are kept and needs are met."""

from givenout.asks import is_ask, is_formula
from givenout.changes import are_let, with_changes
from givenout.errors import BadNeeds, BadOffers, BadSecrets
from givenout.forms import is_alike, is_ascending, is_from, is_tuple_of
from givenout.giving import is_pool
from givenout.keeping import looked_at, shows_looked
from givenout.lores import WORDS
from givenout.needing import looked_for, shows_looked_for

MOST_SECRETS = 3
MOST_NEEDS = 2
MOST_OFFERS = 5
MOST_PRICE = 9


def is_tuple_from(value, low, high):
    """Whether the value is a tuple of so many members."""
    return isinstance(value, tuple) and low <= len(value) <= high


def is_secret(rules, value):
    """Whether the value is a secret that is to be kept from a pool."""
    if not is_tuple_of(value, 3):
        return False
    return is_pool(rules, value[0]) and is_formula(rules.house, value[1]) and value[2] in WORDS


def is_need(rules, value):
    """Whether the value is what a pool needs to know."""
    return is_tuple_of(value, 2) and is_pool(rules, value[0]) and is_ask(rules.house, value[1])


def are_offers(rules, value):
    """Whether the value is an ascending tuple of changes, each let by itself and there once, with prices."""
    if not is_tuple_from(value, 1, MOST_OFFERS) or not all([is_tuple_of(offer, 2) for offer in value]):
        return False
    if not all([are_let(rules, (change,)) and is_from(price, 1, MOST_PRICE + 1) for change, price in value]):
        return False
    return is_ascending([change for change, _ in value])


def need_all(rules, secrets, needs, offers):
    """Refuses what are no secrets, then what are no needs, then what are no offers."""
    if not is_tuple_from(secrets, 1, MOST_SECRETS) or not all([is_secret(rules, secret) for secret in secrets]):
        raise BadSecrets(secrets)
    if not is_tuple_from(needs, 0, MOST_NEEDS) or not all([is_need(rules, need) for need in needs]):
        raise BadNeeds(needs)
    if not are_offers(rules, offers):
        raise BadOffers(offers)


def choices_of(rules, offers):
    """All (price, choice), in sequence."""
    choices = [(0, ())]
    for change, price in offers:
        choices = choices + [(total + price, choice + (change,)) for total, choice in choices]
    return sorted([(price, choice) for price, choice in choices if are_let(rules, choice)])


def alone(secret):
    """The secret as a tuple of secrets of its pool."""
    return ((secret[1], secret[2]),)


def looks_at(rules, secrets, needs):
    """("kept", tables, sheets), or ("out", number, run, lores) or ("open", number, run, other) of what ends it."""
    tables, sheets = [], []
    for number, secret in enumerate(secrets):
        told = looked_at(rules, secret[0], alone(secret))
        if told[0] == "out":
            return ("out", number, told[1], told[3])
        tables.append(told[1:])
    for number, (pool, ask) in enumerate(needs):
        told = looked_for(rules, pool, ask)
        if told[0] == "open":
            return ("open", number) + told[1:]
        sheets.append(told[1])
    return ("kept", tuple(tables), tuple(sheets))


def cheapest(rules, secrets, needs, offers):
    """The first choice by which all secrets are kept and all needs are met, and why none ahead of it does."""
    need_all(rules, secrets, needs, offers)
    reasons = []
    for price, choice in choices_of(rules, offers):
        told = looks_at(with_changes(rules, choice), secrets, needs)
        if told[0] == "kept":
            return ("choice", price, choice) + told[1:] + (tuple(reasons),)
        reasons.append((choice,) + told)
    return ("none", tuple(reasons))


def shows_reason(rules, secrets, needs, choice, value):
    """Whether the value shows why the choice does not do."""
    if not is_tuple_of(value, 5) or not is_alike(value[0], choice):
        return False
    _, word, number, run, last = value
    behind = with_changes(rules, choice)
    if word == "out" and is_from(number, 0, len(secrets)):
        secret = secrets[number]
        return shows_looked(behind, secret[0], alone(secret), ("out", run, 0, last))
    if word == "open" and is_from(number, 0, len(needs)):
        pool, ask = needs[number]
        return shows_looked_for(behind, pool, ask, ("open", run, last))
    return False


def show_kept_and_met(rules, secrets, needs, tables, sheets):
    """Whether the tables show that all secrets are kept, the sheets that all needs are met."""
    if not is_tuple_of(tables, len(secrets)) or not all([is_tuple_of(table, 2) for table in tables]):
        return False
    if not is_tuple_of(sheets, len(needs)):
        return False
    for secret, table in zip(secrets, tables):
        if not shows_looked(rules, secret[0], alone(secret), ("kept",) + table):
            return False
    return all([shows_looked_for(rules, pool, ask, ("sure", sheet)) for (pool, ask), sheet in zip(needs, sheets)])


def show_reasons(rules, secrets, needs, choices, reasons):
    """Whether the reasons show for each of these choices why it does not do."""
    if not is_tuple_of(reasons, len(choices)):
        return False
    told = [shows_reason(rules, secrets, needs, choice, reason) for (_, choice), reason in zip(choices, reasons)]
    return all(told)


def shows_choice(rules, secrets, needs, choices, value):
    """Whether the value shows that the choice that it tells is the first one that does."""
    _, price, choice, tables, sheets, reasons = value
    if not isinstance(reasons, tuple):
        return False
    # As many reasons as there are choices ahead of the one that is told.
    ahead = choices[:len(reasons)]
    if not is_alike([(price, choice)], choices[len(ahead):len(ahead) + 1]):
        return False
    if not show_kept_and_met(with_changes(rules, choice), secrets, needs, tables, sheets):
        return False
    return show_reasons(rules, secrets, needs, ahead, reasons)


def shows_cheapest(rules, secrets, needs, offers, value):
    """Whether the value shows which choice is the cheapest that does, or that none does."""
    need_all(rules, secrets, needs, offers)
    choices = choices_of(rules, offers)
    if is_tuple_of(value, 6) and value[0] == "choice":
        return shows_choice(rules, secrets, needs, choices, value)
    if is_tuple_of(value, 2) and value[0] == "none":
        return show_reasons(rules, secrets, needs, choices, value[1])
    return False
