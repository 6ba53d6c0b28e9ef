"""Webs of tables with rows, on which branches part and merge: for sure, perhaps, rules, changes, sides, the store."""

from tests import plain, plain_asks
from tests.knots import whole
from tests.things import Chance
from tests.weaver import VALUES, Weaver, any_deed

MAIN, LEFT, RIGHT, THIRD = (0, "main"), (1, "left"), (2, "right"), (3, "third")
X, Y = (0, "main", 1), (0, "main", 2)
A = ("roll", "a")


def put(key, **parts):
    """A row asked for, of columns x and y."""
    idents = {"x": X, "y": Y}
    return ("put", "a", key, tuple(sorted((idents[name], value) for name, value in parts.items())))


def shop():
    """Table a with columns x, y and three rows; three branches of it, that have done nothing yet."""
    weaver = Weaver()
    for asked in [("table", "a"), ("column", "a", "x", "any", None), ("column", "a", "y", "any", None),
                  put(1, x=1, y="one"), put(2, x=2), put(3, x=1)]:
        weaver.do(MAIN, *asked)
    for branch in (LEFT, RIGHT, THIRD):
        weaver.fork(MAIN, branch)
    return weaver


def parted():
    """A shop whose branches part at a cell, at a row, and at a table; each has done something alone."""
    weaver = shop()
    weaver.do(LEFT, *put(1, x=5))
    weaver.do(LEFT, "drop", "a", 2)
    weaver.do(RIGHT, *put(1, x="five"))
    weaver.do(RIGHT, *put(4, x=4))
    weaver.do(THIRD, *put(1, x=5))
    weaver.do(THIRD, *put(2, y="two"))
    return weaver


def row(**parts):
    return tuple(sorted(parts.items()))


def few_orders(web, lot, most=400):
    """Whether the lot has so few orders, counted by what has been done so far, in whatever order."""
    due = plain.writers(web, lot)
    known = {name: {each for each in knows if each in due} for name, knows, _ in web}
    begun = {frozenset(): 1}
    for _ in due:
        further = {}
        for heap, count in begun.items():
            for each in due:
                if each not in heap and known[each] <= heap:
                    further[heap | {each}] = further.get(heap | {each}, 0) + count
        begun = further
        if sum(begun.values()) > most:
            return False
    return True


def small_woven(chance, many):
    """A weaver that has done so many deeds on three branches, with rows to part at; few orders, mostly."""
    weaver = shop()
    weaver.do(MAIN, "table", "b")
    weaver.do(MAIN, "column", "b", "x", "any", 0)
    for branch in (LEFT, RIGHT, THIRD):
        weaver.fork(MAIN, branch)
    for _ in range(many):
        branch = chance.one([LEFT, RIGHT, THIRD])
        asked = likely_deed(chance, weaver.web)
        try:
            plain_asks.made(weaver.web, weaver.lots[branch], *branch, asked)
        except plain_asks.Refused:
            continue
        weaver.do(branch, *asked)
        if chance.below(8) == 0:
            weaver.merge(branch, chance.one([LEFT, RIGHT, THIRD]))
    return weaver


def likely_deed(chance, web):
    """Deeds of table a that are seldom refused, or any."""
    done = [name for name, _, _ in web if name[0] == "a" and name[1] != 0] or [("a", 0, "main", 3)]
    return chance.one([
        put(1 + chance.below(4), x=chance.one(VALUES)), put(1 + chance.below(3), x=chance.one((1, 2)), y="z"),
        ("drop", "a", 1 + chance.below(3)), ("blank", "a", 1, X), ("undo", *chance.one(done)),
        ("undo", *chance.one(done)), ("call", "a", X, chance.one(("x", "y", "w"))), ("leave", "a", Y),
        ("kind", "a", X, chance.one(("number", "word"))), any_deed(chance, web)])


QUESTIONS = [
    A, ("roll", "b"), ("where", A, "x", "is", 1), ("where", A, "x", "not", 1), ("where", A, "x", "above", 1),
    ("where", A, "x", "below", 2), ("same", A, "key", "x"), ("keep", A, ("x",)), ("keep", A, ("x", "y")),
    ("call", A, "x", "z"), ("join", ("keep", A, ("x",)), ("keep", A, ("x", "y"))), ("either", A, ("roll", "b")),
    ("but", ("keep", A, ("key",)), ("keep", ("where", A, "x", "is", 1), ("key",))), ("count", A, ("x",), "n"),
    ("count", A, (), "n"), ("sum", A, (), "x", "s"), ("sum", A, ("y",), "x", "x"), ("roll", "nowhere"),
    ("where", ("count", A, ("x",), "n"), "n", "above", 1), ("keep", ("where", A, "x", "is", "word"), ())]


def lots_of(weaver):
    """The branches' lots, the whole, and nothing."""
    return [*weaver.lots.values(), whole(weaver.web), ()]


def wovens(seed, many, size):
    chance = Chance(seed)
    for _ in range(many):
        yield small_woven(chance, size)


def row_of_rows(count):
    """Deeds behind one another: table a, column x, and rows enough; the web."""
    weaver = Weaver()
    weaver.do(MAIN, "table", "a")
    weaver.do(MAIN, "column", "a", "x", "any", None)
    for key in range(count):
        weaver.do(MAIN, "put", "a", key, ((X, key),))
    return weaver
