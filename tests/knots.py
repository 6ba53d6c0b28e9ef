"""Webs of deeds that write the same few places, so that they clash: for readings, ways, worlds."""

from tests import plain
from tests.looms import web_of
from tests.test_places import NO_PLACES
from tests.things import ANYTHING, IDENT, OTHER

WRONG_PLACES = NO_PLACES + [thing for thing in ANYTHING if not plain.place(thing)]

# At each place some things that may be written there, None too; some are alike in kind, none in what repr tells.
WRITTEN = {
    ("cell", "a", 5, IDENT): (0, 1, "one", None),
    ("row", "a", 5): (True, None),
    ("slot", "a", "title"): (IDENT, OTHER, None),
    ("kind", "a", IDENT): ("any", "number", None),
    ("else", "a", IDENT): (1, "b", -(10 ** 9)),
    ("cell", "b", 0, OTHER): (7, "seven", None),
    ("column", "b", OTHER): (None, True),
    ("name", "b", OTHER): ("title", "name"),
}
PLACES = tuple(WRITTEN)


def written(*pairs):
    return ("writes", tuple(sorted(pairs)))


def known_through(deeds, names):
    """The names, and all that those know."""
    found = set(names)
    for name in names:
        found |= set(deeds[name][0])
    return sorted(found)


def knotted(chance, many, places, strikes=5, share=3):
    """A web whose deeds write some of the places, each knowing one of share of those before it; some strike."""
    deeds = {}
    while len(deeds) < many:
        table = chance.one(sorted({place[1] for place in places}))
        name = (table, chance.below(8), chance.one(["main", "left", "x"]), chance.below(20))
        if name in deeds:
            continue
        knows = known_through(deeds, chance.some(list(deeds), share))
        targets = [below for below in knows if below[0] == table]
        own = [place for place in places if place[1] == table]
        if targets and chance.below(strikes) == 0:
            what = ("strike", chance.one(targets))
        else:
            some = chance.some(own) or [chance.one(own)]
            what = written(*((place, chance.one(WRITTEN[place])) for place in some))
        deeds[name] = (knows, what)
    return web_of(*((name, knows, what) for name, (knows, what) in deeds.items()))


CELL = ("cell", "a", 5, IDENT)
ROW = ("row", "a", 5)
ELSE = ("else", "a", IDENT)
TABLE = ("table", "a")
FAR = ("cell", "b", 0, OTHER)

# A first deed, four branches of it, one struck and back, one merged of them, and one of another table.
BASE = ("a", 7, "main", 9)
LEFT = ("a", 1, "left", 0)
RIGHT = ("a", 2, "right", 0)
ALIKE = ("a", 3, "third", 10 ** 6)
GONE = ("a", 0, "fourth", 4)
STRUCK = ("a", 1, "left", 1)
BACK = ("a", 1, "left", 2)
MERGED = ("a", 0, "a", 0)
AFAR = ("b", 2, "right", 0)
STORY = web_of(
    (BASE, (), written((CELL, 0), (ROW, True), (TABLE, True))),
    (LEFT, (BASE,), written((CELL, 1), (ROW, True))),
    (RIGHT, (BASE, AFAR), written((CELL, "one"))),
    (ALIKE, (BASE,), written((CELL, 1), (ELSE, None))),
    (GONE, (BASE,), written((CELL, None), (ROW, None))),
    (STRUCK, (BASE, LEFT), ("strike", LEFT)),
    (BACK, (BASE, LEFT, STRUCK), ("strike", STRUCK)),
    (MERGED, (BASE, LEFT, RIGHT, AFAR, STRUCK), written((CELL, 2), (ELSE, "none"))),
    (AFAR, (), written((FAR, 7), (("table", "b"), True))))


def lot_of(*names):
    """The lot of STORY with just these."""
    return tuple(sorted(names))


def whole(web):
    return tuple(deed[0] for deed in web)


def cell(number):
    return ("cell", "a", number, IDENT)


def one_of(number):
    """Names of which those of higher numbers are named first."""
    return ("a", 2, "x", 1000 - number)


def writers_of(*heaps):
    """Deeds that know nothing: of each place the numbers of those that write it, each its own number."""
    pairs = {}
    for at, heap in enumerate(heaps):
        for number in heap:
            pairs.setdefault(number, []).append((cell(at), number))
    return web_of(*((one_of(number), (), written(*pairs[number])) for number in pairs))


def ring(many):
    """So many deeds and places, each of the deeds first at its own place, second at the next one."""
    return writers_of(*([at, (at - 1) % many] for at in range(many)))


def apart(*many):
    """For each number a place that so many deeds of its own write."""
    starts = [sum(many[:at]) for at in range(len(many))]
    return writers_of(*(range(start, start + each) for start, each in zip(starts, many)))


def row_beside(many):
    """Deeds behind one another, each at a place of its own, and one beside them that writes all of these."""
    names = [one_of(at) for at in range(many)]
    deeds = [(names[at], names[:at], written((cell(at), at))) for at in range(many)]
    return web_of(*deeds, (("a", 0, "beside", 0), (), written(*((cell(at), "all") for at in range(many)))))
