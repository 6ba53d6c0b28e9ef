"""What DOC.md says of deeds, questions, answers and whence, once more, as plainly as can be."""

from tests import plain
from tests.plain import ident, key, kind, name, reading, rising, row_all, row_of, text, value, whole, word


class Refused(Exception):
    """Kept is the name of the error that is due."""


def told_else(thing):
    return thing is None or value(thing)


def cells(thing):
    return row_all(thing, lambda part: row_of(part, ident, value)) and len(thing) <= 6 and rising(
        [part[0] for part in thing])


def deed(thing):
    return any(row_of(thing, *tests) for tests in [
        (word("table"), name), (word("column"), name, name, kind, told_else), (word("call"), name, ident, name),
        (word("kind"), name, ident, kind), (word("else"), name, ident, told_else), (word("put"), name, key, cells),
        (word("blank"), name, key, ident), (word("drop"), name, key), (word("leave"), name, ident), (word("end"), name),
        (word("undo"), name, lambda part: whole(part, 0, 7), name, lambda part: whole(part, 0, 10 ** 6))])


def is_there(deeds, members, where):
    return [each for each in reading(deeds, members, where) if each is not None] != []


def made(deeds, members, hand, branch, thing, number=None):
    """As points [17] and [18] have it; Refused where it is."""
    table = thing[1]
    given = [each[3] for each, _, _ in deeds if each[:3] == (table, hand, branch)]
    if number is None:
        number = max(given) + 1 if given else 0
    if not whole(number, 0, 10 ** 6) or number in given:
        raise Refused("NoNumber")
    part = part_of(deeds, members, (hand, branch, number), thing)
    if sum(each[0] == table for each in members) >= 60:
        raise Refused("TooWide")
    return (table, hand, branch, number), members, part


def part_of(deeds, members, own, thing):
    if thing[0] == "undo":
        if thing[1:] not in members:
            raise Refused("Lacking")
        if not plain.stands(deeds, members, thing[1:]):
            raise Refused("Undone")
        return "strike", thing[1:]
    return "writes", tuple(sorted(writes(deeds, members, own, thing).items()))


def writes(deeds, members, own, thing):
    table = thing[1]

    def there(*where):
        return is_there(deeds, members, (where[0], table, *where[1:]))

    def all_there(*words):
        return {where: None for where in plain.places(deeds, members)
                if where[0] in words and where[1] == table and is_there(deeds, members, where)}

    def held(column):
        olds = [old for old in reading(deeds, members, ("name", table, column)) if old is not None]
        return {("slot", table, old): None for old in olds if column in reading(deeds, members, ("slot", table, old))}

    def need(error, *wheres):
        for where in wheres:
            if not there(*where):
                raise Refused(error)

    def taken(whether):
        if whether:
            raise Refused("Taken")

    what = {("table", table): True}
    if thing[0] == "table":
        taken(there("table"))
        return what
    need("NoTable", ("table",))
    if thing[0] == "column":
        taken(there("slot", thing[2]))
        what.update({("column", table, own): True, ("name", table, own): thing[2], ("slot", table, thing[2]): own,
                     ("kind", table, own): thing[3]})
        if thing[4] is not None:
            what[("else", table, own)] = thing[4]
    elif thing[0] == "call":
        need("NoColumn", ("column", thing[2]))
        taken(set(reading(deeds, members, ("slot", table, thing[3]))) - {None, thing[2]})
        what.update(held(thing[2]))
        what.update({("name", table, thing[2]): thing[3], ("slot", table, thing[3]): thing[2],
                     ("column", table, thing[2]): True})
    elif thing[0] in ("kind", "else"):
        need("NoColumn", ("column", thing[2]))
        what.update({(thing[0], table, thing[2]): thing[3], ("column", table, thing[2]): True})
    elif thing[0] == "put":
        need("NoColumn", *(("column", column) for column, _ in thing[3]))
        what[("row", table, thing[2])] = True
        for column, each in thing[3]:
            what.update({("column", table, column): True, ("cell", table, thing[2], column): each})
    elif thing[0] == "blank":
        need("NoColumn", ("column", thing[3]))
        need("NoRow", ("row", thing[2]))
        what.update({("row", table, thing[2]): True, ("column", table, thing[3]): True,
                     ("cell", table, thing[2], thing[3]): None})
    elif thing[0] == "drop":
        need("NoRow", ("row", thing[2]))
        what.update({where: None for where in all_there("cell") if where[2] == thing[2]})
        what[("row", table, thing[2])] = None
    elif thing[0] == "leave":
        need("NoColumn", ("column", thing[2]))
        what.update({("column", table, thing[2]): None, **held(thing[2])})
    else:
        what.update({("table", table): None, **all_there("row", "column", "cell", "slot")})
    return what


def qnames(thing):
    return row_all(thing, text) and rising(thing) and len(thing) <= 6


def asked(thing, within=8):
    """How many questions it is, none where it is no question."""
    def inner(part):
        return within > 1 and asked(part, within - 1) > 0

    forms = [(word("roll"), name), (word("where"), inner, text, sign, value), (word("same"), inner, text, text),
             (word("keep"), inner, qnames), (word("call"), inner, text, text), (word("join"), inner, inner),
             (word("either"), inner, inner), (word("but"), inner, inner), (word("count"), inner, qnames, text),
             (word("sum"), inner, qnames, text, text)]
    if not any(row_of(thing, *tests) for tests in forms):
        return 0
    if thing[0] == "call" and thing[2] == thing[3] or thing[0] in ("count", "sum") and thing[-1] in thing[2]:
        return 0
    return 1 + sum(asked(part, within - 1) for part in inside(thing))


def sign(thing):
    return type(thing) is str and thing in ("is", "not", "below", "above")


def question(thing):
    return 0 < asked(thing) <= 40


def inside(thing):
    return () if thing[0] == "roll" else thing[1:3] if thing[0] in ("join", "either", "but") else thing[1:2]


def row(thing):
    return row_all(thing, lambda pair: row_of(pair, text, lambda part: type(part) is int or text(part))) and rising(
        [pair[0] for pair in thing])


def tables_in(thing):
    if thing[0] == "roll":
        return {thing[1]}
    return set().union(*(tables_in(part) for part in inside(thing)))


def answer(state, thing):
    """The rows as dicts, put together by the words of point [20]; Refused where one has more than 400."""
    return tuple(sorted((tuple(sorted(each.items())) for each in rows_told(state, thing)), key=repr))


def rows_told(state, thing):
    found = []
    for each in told(state, thing[0], thing, [rows_told(state, part) for part in inside(thing)]):
        if each not in found:
            found.append(each)
    if len(found) > 400:
        raise Refused("TooWide")
    return found


def told(state, kind_of, thing, rows):
    if kind_of == "roll":
        return [{"key": each, **dict(pairs)} for each, pairs in plain.rows(state, thing[1])]
    if kind_of == "join":
        return [{**one, **other} for one in rows[0] for other in rows[1]
                if all(one[each] == other[each] for each in one if each in other)]
    if kind_of == "either":
        return rows[0] + rows[1]
    if kind_of == "but":
        return [each for each in rows[0] if each not in rows[1]]
    if kind_of == "where":
        return [each for each in rows[0] if thing[2] in each and so(each[thing[2]], thing[3], thing[4])]
    if kind_of == "same":
        return [each for each in rows[0] if thing[2] in each and thing[3] in each and each[thing[2]] == each[thing[3]]]
    if kind_of == "keep":
        return [cut(each, thing[2]) for each in rows[0]]
    if kind_of == "call":
        return [renamed(each, thing[2], thing[3]) for each in rows[0]]
    return [{**each, thing[-1]: summed(thing, [one for one in rows[0] if cut(one, thing[2]) == each])}
            for each in [cut(one, thing[2]) for one in rows[0]]]


def so(part, how, other):
    if how in ("is", "not"):
        return (part == other) == (how == "is")
    return type(part) is type(other) is int and (part < other if how == "below" else part > other)


def cut(each, names):
    return {name: part for name, part in each.items() if name in names}


def renamed(each, old, new):
    if old not in each or new in each:
        return each
    return {new if name == old else name: part for name, part in each.items()}


def summed(thing, rows):
    if thing[0] == "count":
        return len(rows)
    return sum(each[thing[3]] for each in rows if type(each.get(thing[3])) is int)


def simple(thing):
    return question(thing) and all_words(thing) <= {"roll", "where", "same", "keep", "call", "join", "either"}


def all_words(thing):
    return {thing[0]}.union(*(all_words(part) for part in inside(thing)))


def only_rows(state, rows):
    return tuple((where, what) for where, what in state if where[0] != "row" or where[1:] in rows)


def table_keys(thing):
    return row_all(thing, lambda part: row_of(part, name, key)) and rising(thing)


def whence(state, thing, each, rows):
    """Whether the rows are such as point [21] has it."""
    if not table_keys(rows):
        return False
    there = dict(state)
    if not all(("table", part[0]) in there and ("row", *part) in there for part in rows):
        return False
    return each in answer(only_rows(state, rows), thing) and not any(
        each in answer(only_rows(state, rows[:at] + rows[at + 1:]), thing) for at in range(len(rows)))
