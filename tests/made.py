"""Small houses, rules, pools, asks and runs that are made by a number, the same each time."""

import random

from givenout.changes import are_let
from givenout.houses import House
from givenout.rules import Rules
from givenout.stands import after, first_stand, moves


# Of these numbers come houses with more members than are looked at.
TOO_GREAT = (38, 116, 234)


def some(many, numbers=True):
    """Houses of the numbers below many, up to 300, with no more members than are looked at."""
    return [Made(number, numbers) for number in range(many) if number not in TOO_GREAT]


class Made:
    """A house with rules; numbers: whether the rules number people."""

    def __init__(self, number, numbers=True):
        self.chance = random.Random(number)
        self.house = House("\n".join(self.house_lines()))
        self.rules = Rules(self.house, "\n".join(self.rules_lines(numbers)))

    def one(self, *rows):
        return self.chance.choice(rows)

    def is_so(self, percent):
        return self.chance.randrange(100) < percent

    def house_lines(self):
        people = ["ann", "bob", "cy"][:self.one(1, 2, 2, 3)]
        cells = [("c", self.one(2, 2, 3, 4)), ("d", 2)][:self.one(1, 1, 2)]
        kinds = []
        for kind in ["k", "l"][:self.one(0, 1, 1, 2, 2)]:
            fields = [("w", None)] * self.is_so(70) + [("v", self.one(2, 3, 4))] * self.is_so(60)
            kinds.append((kind, fields))
        lines = ["people " + " ".join(people)]
        lines += [f"cell {name} {size} {self.chance.randrange(size)}" for name, size in cells]
        for kind, fields in kinds:
            lines.append(f"kind {kind}")
            lines += [f"  who {name}" if size is None else f"  worth {name} {size}" for name, size in fields]
        for deed in ["x", "y"][:self.one(1, 1, 2, 2)]:
            lines += [f"deed {deed}"] + self.deed_lines(people, cells, kinds)
        return lines + [f"day {self.one(1, 1, 2)}"]

    def deed_lines(self, people, cells, kinds):
        lines = []
        if self.is_so(30):
            lines.append("  by " + " ".join(self.chance.sample(people, self.chance.randrange(1, len(people) + 1))))
        if self.is_so(40):
            name, size = self.one(*cells)
            lines.append(f"  if {name} {self.one('=', '!=')} {self.chance.randrange(size)}")
        pick = self.one(1, 1, 2, 3)
        if pick > 1:
            lines.append(f"  pick {pick}")
        for _ in range(self.one(0, 1, 1, 2)):
            name, size = self.one(*cells)
            lines.append(f"  {self.one('set', 'add')} {name} {self.source(size, pick, cells)}")
        for _ in range(self.one(0, 1, 1, 2) if kinds else 0):
            kind, fields = self.one(*kinds)
            words = [self.one("who", "who", *people) if size is None else self.source(size, pick, cells)
                     for _, size in fields]
            lines.append(" ".join(["  row", kind] + words))
        return lines

    def source(self, size, pick, cells):
        fit = [name for name, other in cells if other <= size]
        return self.one(*(["0", str(size - 1)] + ["it"] * 2 * (pick <= size) + fit))

    def rules_lines(self, numbers):
        lines = []
        for reader in ["q", "r"][:self.one(1, 1, 2)]:
            lines.append(f"reader {reader}")
            if self.is_so(20):
                lines.append("  is " + self.one(*self.house.people))
            lines += ["  daily"] * self.is_so(30) + ["  nights"] * self.is_so(30)
            for kind, fields in self.house.kinds:
                if self.is_so(75):
                    lines += [f"  kind {kind}"] + self.kind_lines(fields, numbers)
        return lines

    def kind_lines(self, fields, numbers):
        lines = []
        if fields and self.is_so(25):
            name, size = self.one(*fields)
            value = self.one(*self.house.people) if size is None else self.chance.randrange(size)
            lines.append(f"    only {name} {self.one('=', '!=')} {value}")
        if self.is_so(20):
            return lines + [f"    counted {self.one(1, 2, 3)}"]
        for name, size in fields:
            if self.is_so(60):
                word = self.one("blank", "coarse", "coarse") if size else self.one("blank", "number", "number")
                if word != "number" or numbers:
                    lines.append(f"    {word} {name}" + (f" {self.one(2, 3)}" if word == "coarse" else ""))
        return lines + ["    nightly"] * self.is_so(25)

    def leaf(self):
        deed, _, pick = self.one(*self.house.deeds)
        cell, size, _ = self.one(*self.house.cells)
        word = self.one("now", "done", "done", "today", "last", "often")
        if word == "now":
            return (word, cell, self.chance.randrange(size))
        if word in ("done", "today"):
            return (word, deed, self.one(None, *self.house.people), self.one(None, *range(pick)))
        return (word, deed, self.one(*self.house.people) if word == "last" else self.one(2, 3))

    def formula(self):
        if self.is_so(60):
            return self.leaf()
        return self.one(("not", self.leaf()), ("and", self.leaf(), self.leaf()), ("or", self.leaf(), self.leaf()))

    def ask(self):
        cell, deed = self.one(*self.house.cells)[0], self.one(*self.house.deeds)[0]
        return self.one(self.formula(), self.formula(), self.formula(), ("worth", cell), ("who", deed),
                        ("times", deed, self.one(1, 2, 3)))

    def secrets(self):
        return tuple((self.formula(), self.one("yes", "no", "whether")) for _ in range(self.one(1, 1, 2, 3)))

    def changes(self, pool):
        """All changes of readers of the pool that the rules let, each by itself."""
        found = []
        for reader in pool:
            found += [("daily", reader), ("nights", reader)]
            for kind, fields in self.house.kinds:
                found += [("hide", reader, kind), ("nightly", reader, kind)]
                found += [("counted", reader, kind, n) for n in (1, 2, 3)]
                for field, size in fields:
                    found += [("blank", reader, kind, field)]
                    found += [("coarse", reader, kind, field, n) for n in (2, 3)] if size else [
                        ("number", reader, kind, field)]
        return sorted([change for change in found if are_let(self.rules, (change,))])

    def ways(self, pool):
        """None to four ways, among them often the rules as they are."""
        found, changes = [()] if self.is_so(60) else [], self.changes(pool)
        for _ in range(self.one(0, 1, 2, 3) if changes else 0):
            way = tuple(sorted(self.chance.sample(changes, min(len(changes), self.one(1, 1, 2)))))
            if are_let(self.rules, way) and way not in found:
                found.append(way)
        self.chance.shuffle(found)
        return tuple(found)

    def pool(self):
        return self.one(*[(reader,) for reader in self.rules.readers], self.rules.readers)

    def guards(self):
        """One or two guards, with pools apart."""
        pools = [self.pool()]
        if len(self.rules.readers) == 2 and self.is_so(50):
            pools = [(reader,) for reader in self.rules.readers]
        return tuple((pool, self.secrets(), self.ways(pool)) for pool in pools)

    def other_rules(self):
        """Rules of the house, often the same."""
        return self.rules if self.is_so(25) else Rules(self.house, "\n".join(self.rules_lines(True)))

    def deed(self):
        return self.one(*self.house.deeds)[0]

    def run(self, most):
        stand, run = first_stand(self.house), ()
        for _ in range(self.chance.randrange(most + 1)):
            move = self.one(*moves(self.house, stand))
            stand, run = after(self.house, stand, move)[0], run + (move,)
        return run
