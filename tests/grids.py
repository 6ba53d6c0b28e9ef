"""States of tables with rows, and questions, for the tests of answers and whence."""

from tests.things import Chance

QNAMES = ("key", "w", "x", "y", "z")
CHANCE_VALUES = (0, 1, 2, "x", "word")


def grid(table, names, rows, kinds=(), elses=()):
    """The places of a table with these columns: rows as (key, values), None where there is no cell."""
    found = [(("table", table), True)]
    for at, name in enumerate(names):
        ident = (0, "main", at)
        found += [(("column", table, ident), True), (("name", table, ident), name), (("slot", table, name), ident)]
    for at, kind in kinds:
        found.append((("kind", table, (0, "main", at)), kind))
    for at, value in elses:
        found.append((("else", table, (0, "main", at)), value))
    for key, values in rows:
        found.append((("row", table, key), True))
        found += [(("cell", table, key, (0, "main", at)), value) for at,
                  value in enumerate(values) if value is not None]
    return found


def state_of(*grids):
    return tuple(sorted({place: what for each in grids for place, what in each}.items()))


def row(**parts):
    return tuple(sorted(parts.items()))


def by_text(*rows):
    return tuple(sorted(rows, key=repr))


# Books with a title, a year and how many of them, some of which aren't known; who lent which.
BOOKS = grid("books", ("title", "year", "many"), [
    (1, ("emma", 1815, 2)), (2, ("persuas", 1817, None)), (5, ("emma", 1900, 0)), (10, (None, 1815, 3)),
    (11, ("odd", "odd", None))], kinds=[(0, "word"), (2, "number")], elses=[(2, 1)])
LENT = grid("lent", ("title", "who", "many"), [
    (1, ("emma", "ann", 1)), (2, ("emma", "bob", -4)), (3, ("none", "ann", None)), (7, ("odd", "odd", 10 ** 9))])
LIBRARY = state_of(BOOKS, LENT)
EMMA, PERSUAS = row(key=1, title="emma", year=1815, many=2), row(key=2, title="persuas", year=1817, many=1)
AGAIN, NAMELESS = row(key=5, title="emma", year=1900, many=0), row(key=10, year=1815, many=3)
ODD = row(key=11, title="odd", year="odd", many=1)
ANN, BOB = row(key=1, title="emma", who="ann", many=1), row(key=2, title="emma", who="bob", many=-4)
NONE, LAST = row(key=3, title="none", who="ann"), row(key=7, title="odd", who="odd", many=10 ** 9)
ROLL, LOANS = ("roll", "books"), ("roll", "lent")


def within(many, question=("roll", "a")):
    """So many questions within one another, and no more in all."""
    for _ in range(many - 1):
        question = ("keep", question, ("key",))
    return question


def in_all(many):
    """So many questions in all, few of them within one another."""
    found = [("roll", "a")] * ((many + 1) // 2)
    while len(found) > 1:
        found = [("either", *found[at:at + 2]) if at + 1 < len(found) else found[at] for at in range(0, len(found), 2)]
    return found[0] if many % 2 else ("keep", found[0], ())


def made_grid(chance, table, names=("x", "y", "z")):
    names = chance.some(names) or names[:1]
    rows = [(key, [chance.one([None, *CHANCE_VALUES]) for _ in names]) for key in chance.some((0, 1, 2, 10, 11))]
    kinds = [(0, chance.one(["number", "word", "any"]))] if chance.below(3) == 0 else []
    elses = [(0, chance.one(CHANCE_VALUES))] if chance.below(3) == 0 else []
    return grid(table, names, rows, kinds, elses)


def made_question(chance, most, words=("where", "same", "keep", "call", "join", "either", "but", "count", "sum")):
    """A question of so many within one another at most."""
    word = chance.one(words)
    if most == 1 or chance.below(5) == 0:
        return ("roll", chance.one(["a", "b", "a", "b", "c"]))
    one = made_question(chance, most - 1, words)
    if word in ("join", "either", "but"):
        return (word, one, made_question(chance, most - 1, words))
    qname, other = chance.mixed(QNAMES)[:2]
    qnames = tuple(chance.some(QNAMES, 3))
    if word == "where":
        return (word, one, qname, chance.one(["is", "not", "below", "above"]), chance.one(CHANCE_VALUES + (10, -1)))
    if word in ("same", "call"):
        return (word, one, qname, other)
    if word == "keep":
        return (word, one, qnames)
    new = chance.one([each for each in (*QNAMES, "new") if each not in qnames])
    return (word, one, qnames, new) if word == "count" else (word, one, qnames, qname, new)


def cases(seed, many, **more):
    """States of two tables, each with a question."""
    chance = Chance(seed)
    for _ in range(many):
        yield state_of(made_grid(chance, "a"), made_grid(chance, "b")), made_question(chance, 1 + chance.below(5),
                                                                                      **more)
