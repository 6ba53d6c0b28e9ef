"""Webs woven by made: deeds asked for on branches, forked and put together."""

from forkrolls.deeds.making import made
from tests import plain_asks

TABLES = ("a", "b")
NAMES = ("x", "y", "z")
VALUES = (0, 1, -3, 10 ** 9, "x", "word")
KEYS = (0, 2, 10 ** 9)


class Weaver:
    """A web, and the lots of its branches: each is (hand, name)."""

    def __init__(self):
        self.web = ()
        self.lots = {(0, "main"): ()}

    def add(self, deed):
        """The web with a deed more; its name."""
        self.web = tuple(sorted(self.web + (deed,)))
        return deed[0]

    def do(self, branch, *asked, number=None):
        """The deed on the branch; its name."""
        deed = made(self.web, self.lots[branch], *branch, asked, number=number)
        self.lots[branch] = tuple(sorted(self.lots[branch] + (deed[0],)))
        return self.add(deed)

    def fork(self, branch, new):
        self.lots[new] = self.lots[branch]

    def merge(self, branch, other):
        self.lots[branch] = self.both(branch, other)

    def both(self, *branches):
        return tuple(sorted({name for branch in branches for name in self.lots[branch]}))


def any_deed(chance, web, table=None):
    """A deed asked for, of few tables, names, keys and such columns as the web has, and one that it hasn't."""
    table = table or chance.one(TABLES)
    idents = sorted({place[2] for _, _, what in web if what[0] == "writes" for place, _ in what[1]
                     if place[0] == "column" and place[1] == table})
    if not idents or chance.below(8) == 0:
        idents.append((7, "nowhere", 0))
    ident, name, key = chance.one(idents), chance.one(NAMES), chance.one(KEYS)
    value = chance.one([*VALUES, None])
    cells = tuple((each, chance.one(VALUES)) for each in sorted(chance.some(idents))[:6])
    kind = chance.one(["number", "word", "any"])
    names = [each for each, _, _ in web if each[0] == table] + [(table, 7, "nowhere", 0)]
    seldom = [("table", table), ("kind", table, ident, kind), ("drop", table, key), ("leave", table, ident),
              ("end", table), ("undo", *chance.one(names))]
    return chance.one([
        ("column", table, name, kind, value), ("call", table, ident, name), ("call", table, ident, name),
        ("else", table, ident, value), ("put", table, key, cells), ("put", table, key, cells),
        ("put", table, key, cells), ("blank", table, key, ident), chance.one(seldom), ("undo", *chance.one(names))])


def woven(chance, many):
    """A weaver that has done so many deeds, or not, as they were refused, on three branches that merge now and then."""
    weaver = Weaver()
    for table in TABLES:
        weaver.do((0, "main"), "table", table)
        weaver.do((0, "main"), "column", table, "x", "any", None)
    for new in ((1, "left"), (2, "right")):
        weaver.fork((0, "main"), new)
    for _ in range(many):
        branch = chance.one(list(weaver.lots))
        asked = any_deed(chance, weaver.web)
        try:
            plain_asks.made(weaver.web, weaver.lots[branch], *branch, asked)
        except plain_asks.Refused:
            continue
        weaver.do(branch, *asked)
        if chance.below(6) == 0:
            weaver.merge(branch, chance.one(list(weaver.lots)))
    return weaver
