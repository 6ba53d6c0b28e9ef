"""Webs and lots for the tests, small and great, sound and wrong."""

from tests import plain
from tests.test_states import made_writes
from tests.things import ANYTHING, GREAT, IDENT

TABLE = ("writes", ((("table", "a"), True),))
ROW = ("writes", ((("row", "a", 5), True), (("table", "a"), True)))
CELL = ("writes", ((("cell", "a", 5, IDENT), "word"), (("table", "a"), True)))

# The names don't rise as the deeds came: what comes last may be named first.
FIRST = ("a", 7, "main", 9)
LEFT = ("a", 1, "left", 1)
RIGHT = ("a", 0, "right", 10 ** 6)
STRIKE = ("a", 1, "left", 0)
AGAIN = ("a", 0, "back", 0)
MERGED = ("a", 3, "merged", 2)
ELSEWHERE = ("b", 0, "main", 0)
STRANGE = ("a", 1, "nowhere", 1)


def web_of(*deeds):
    """The deeds as a web, each with what it knows in any order."""
    return tuple(sorted((name, tuple(sorted(knows)), what) for name, knows, what in deeds))


SMALL = web_of(
    (FIRST, (), TABLE),
    (LEFT, (FIRST,), ROW),
    (RIGHT, (FIRST,), CELL),
    (STRIKE, (FIRST, LEFT), ("strike", LEFT)),
    (AGAIN, (FIRST, LEFT, STRIKE), ("strike", STRIKE)),
    (MERGED, (FIRST, LEFT, RIGHT, STRIKE, ELSEWHERE), ROW),
    (ELSEWHERE, (), ("writes", ((("table", "b"), True),))))
WHOLE = tuple(name for name, _, _ in SMALL)

ONE = ("a", 0, "main", 0)
TWO = ("a", 0, "main", 1)
BEHIND = ((ONE, (), TABLE), (TWO, (ONE,), ROW))
TRUE_ONE = ("a", False, "main", 0)
TRUE_TWO = ("a", 0, "main", True)


def named(name):
    """A web of one deed of this name."""
    return ((name, (), TABLE),)


NO_WEBS = [
    list(SMALL), SMALL[::-1], SMALL + SMALL[-1:], SMALL[1:] + SMALL[:1], (None,), ((),), ((ONE, (), TABLE, ()),),
    ((ONE, ()),), ([ONE, (), TABLE],), {ONE: TABLE}, (ONE,), (ONE, (), TABLE), ((ONE, [], TABLE),),
    ((ONE, (), list(TABLE)),), ((ONE, None, TABLE),), ((ONE, (), None),), ((list(ONE), (), TABLE),),
    ((ONE, {}, TABLE),), ((ONE, (), {}),),
    ((ONE, "", TABLE),), ((ONE, (), ()),), ((None, (), TABLE),), ((ONE, (), "writes"),),
    # Of names and what knows them:
    named(("key", 0, "main", 0)), named(("a", 0, "key", 0)), named(("a", 8, "main", 0)), named(("a", -1, "main", 0)),
    named(("a", 0, "main", -1)), named(("a", 0, "main", 10 ** 6 + 1)), named(("a", 0, "main", GREAT)),
    named(("a", False, "main", 0)), named(("a", True, "main", 0)), named(("a", 0, "main", True)),
    named(("a", 0, "main", False)), named(("a", 0, "main")), named(("a", 0, "main", 0, 0)), named(("a", "main", 0, 0)),
    named(("a", 0, "main", None)), named(("a", 0, ("main",), 0)), named(("abcdefghi", 0, "main", 0)),
    ((ONE, (ONE,), TABLE),), ((ONE, (TWO,), TABLE),), ((ONE, (STRANGE,), TABLE), BEHIND[1]),
    (BEHIND[0], (TWO, (TRUE_ONE,), ROW)), (BEHIND[0], (TWO, (ONE, ONE), ROW)), (BEHIND[0], (TWO, [ONE], ROW)),
    (BEHIND[0], (TWO, (ONE, TWO), ROW)), (BEHIND[0], (TWO, ONE, ROW)), (BEHIND[0], (TWO, (None,), ROW)),
    (BEHIND[0], (TWO, (["a", 0, "main", 0],), ROW)), ((ONE, (TWO,), TABLE), (TWO, (ONE,), ROW)),
    web_of((ONE, (), TABLE), (TWO, (), TABLE), (FIRST, (ONE, TWO), TABLE))[:2] + ((FIRST, (TWO, ONE), TABLE),),
    # Knows that aren't closed:
    web_of((ONE, (), TABLE), (TWO, (ONE,), ROW), (FIRST, (TWO,), ROW)),
    web_of((ONE, (), TABLE), (TWO, (ONE,), ROW), (FIRST, (ONE, TWO), ROW), (LEFT, (ONE, FIRST), ROW)),
    # Of writes and strikes:
    ((ONE, (), ("writes", ((("table", "b"), True),))),), ((ONE, (), ("writes", ())),), ((ONE, (), ("writes", None)),),
    ((ONE, (), ("writes", ((("table", "a"), 1),))),), ((ONE, (), ("writes", TABLE[1], ())),), ((ONE, (), TABLE[1]),),
    ((ONE, (), ("write", TABLE[1])),), ((ONE, (), (None, TABLE[1])),), ((ONE, (), (["writes"], TABLE[1])),),
    ((ONE, (), ("strike", ONE)),), ((ONE, (), ("strike", TWO)),), (BEHIND[0], (TWO, (), ("strike", ONE))),
    (BEHIND[0], (TWO, (ONE,), ("strike", TWO))), (BEHIND[0], (TWO, (ONE,), ("strike", TRUE_ONE))),
    (BEHIND[0], (TWO, (ONE,), ("strike", None))), (BEHIND[0], (TWO, (ONE,), ("strike", list(ONE)))),
    (BEHIND[0], (TWO, (ONE,), ("strike", (ONE,)))), (BEHIND[0], (TWO, (ONE,), ("strike",))),
    (BEHIND[0], (TWO, (ONE,), ("strike", STRANGE))), (BEHIND[0], (TWO, (ONE,), ("Strike", ONE))),
    (BEHIND[0], (("b", 0, "main", 0), (ONE,), ("strike", ONE))),
    (BEHIND[0], (("b", 0, "main", 0), (ONE,), ROW))]
WRONG_WEBS = NO_WEBS + [thing for thing in ANYTHING if not plain.web(thing)]

NO_NAMES = [thing for thing in ANYTHING if not plain.deed_name(thing)] + [
    TRUE_ONE, TRUE_TWO, ("a", True, "left", 1), ("a", 1, "left", True), ("a", 1, "left", False), list(LEFT),
    (LEFT,), LEFT + (0,), LEFT[:3], ("a", 8, "left", 1), ("key", 1, "left", 1), ("a", 1, "key", 1),
    ("a", 1, "left", 10 ** 6 + 1), ("a", 1, ["left"], 1), ("a", [1], "left", 1)]
NO_LOTS = [
    (LEFT,), (FIRST, LEFT), (LEFT, FIRST, FIRST), WHOLE[::-1], list(WHOLE), WHOLE + WHOLE[-1:], WHOLE[:-2] + WHOLE[-1:],
    WHOLE[1:] + WHOLE[:1], (STRANGE,), (FIRST, STRANGE), (("a", True, "left", 1), FIRST), ((FIRST,),), FIRST,
    (list(FIRST),), (FIRST, None), (None, FIRST), (FIRST, []), ("a", FIRST), (FIRST, 0), {FIRST: True}, (MERGED, FIRST),
    tuple(sorted([FIRST, MERGED]))]
WRONG_LOTS = NO_LOTS + [thing for thing in ANYTHING if not plain.lot(SMALL, thing)]
WRONG_NUMBERS = [thing for thing in ANYTHING if not plain.whole(thing, 1, 10 ** 4)] + [0, -1, 10 ** 4 + 1]


def made_web(chance, many, tables=("a", "b"), strikes=3):
    """A web of deeds that each know some of those before them; one of strikes a strike, where there can be one."""
    deeds = {}
    while len(deeds) < many:
        name = (chance.one(tables), chance.below(8), chance.one(["main", "left", "x"]), chance.below(20))
        if name in deeds:
            continue
        knows = {}
        for below in chance.some(list(deeds), 3):
            knows.update({below: True, **dict.fromkeys(deeds[below][0])})
        targets = [below for below in knows if below[0] == name[0]]
        if targets and chance.below(strikes) == 0:
            what = ("strike", chance.one(targets))
        else:
            what = ("writes", made_writes(chance, name[0], 1 + chance.below(3)))
        deeds[name] = (list(knows), what)
    return web_of(*((name, knows, what) for name, (knows, what) in deeds.items()))


def made_lot(chance, web):
    """Some of the deeds, with all that they know."""
    members = set()
    for name, knows, _ in web:
        if chance.below(3) == 0:
            members |= {name, *knows}
    return tuple(sorted(members))


def lot_without(web, lot, name):
    """The lot without a deed, and without those that know it."""
    knowing = [deed for deed, knows, _ in web if name in knows]
    return tuple(each for each in lot if each != name and each not in knowing)


def web_without(web, name):
    """The web as it is had the deed never been done; none but its own strikes may name it."""
    return tuple((each, tuple(below for below in knows if below != name), what)
                 for each, knows, what in web if each != name)


def numbered(number):
    """Names of which those that come later are named first."""
    return ("a", 0, "main", 1000 - number)


def row_written(number):
    return ("writes", ((("row", "a", number), True), (("table", "a"), number % 3 == 0 or None)))


def in_a_row(many, start=0):
    """Deeds behind one another, as (name, knows, what)."""
    names = [numbered(start + at) for at in range(many)]
    return [(names[at], names[:at], row_written(start + at)) for at in range(many)]


def beside(many, start=0):
    """Deeds of which none knows another."""
    return [(numbered(start + at), [], row_written(start + at)) for at in range(many)]


def stacked(*heaps):
    """Heaps of deeds, each behind all of those before it."""
    found, below = [], []
    for heap in heaps:
        found += [(name, list(knows) + below, what) for name, knows, what in heap]
        below = below + [name for name, _, _ in heap]
    return web_of(*found)


def strikes_of_strikes(many):
    """A deed, a strike of it, a strike of that, and so on."""
    deeds = in_a_row(many)
    return web_of(deeds[0], *((name, knows, ("strike", knows[-1])) for name, knows, _ in deeds[1:]))
