"""What DOC.md says, once more, as plainly as can be and with no thought of how long it takes."""

import re

ID_WORDS = ("column", "name", "kind", "else")


def whole(thing, low, high):
    return type(thing) is int and low <= thing <= high


def text(thing):
    return type(thing) is str and re.fullmatch("[a-z]{1,8}", thing) is not None


def name(thing):
    return text(thing) and thing != "key"


def key(thing):
    return whole(thing, 0, 10 ** 9)


def value(thing):
    return text(thing) or whole(thing, -(10 ** 9), 10 ** 9)


def kind(thing):
    return type(thing) is str and thing in ("number", "word", "any")


def row_of(thing, *tests):
    """A tuple of just as many parts as there are tests, each part such."""
    return type(thing) is tuple and len(thing) == len(tests) and all(test(part) for test, part in zip(tests, thing))


def ident(thing):
    return row_of(thing, lambda part: whole(part, 0, 7), name, lambda part: whole(part, 0, 10 ** 6))


def word(wanted):
    return lambda thing: type(thing) is str and thing == wanted


def place(thing):
    if row_of(thing, word("table"), name) or row_of(thing, word("slot"), name, name):
        return True
    if row_of(thing, word("row"), name, key) or row_of(thing, word("cell"), name, key, ident):
        return True
    return any(row_of(thing, word(each), name, ident) for each in ID_WORDS)


def fits(where, thing):
    tests = {"table": lambda thing: thing is True, "column": lambda thing: thing is True,
             "row": lambda thing: thing is True, "name": name, "slot": ident, "kind": kind,
             "else": value, "cell": value}
    return tests[where[0]](thing)


def rising(things):
    return sorted(set(things)) == list(things)


def row_all(thing, test):
    return type(thing) is tuple and all(test(part) for part in thing)


def names(thing):
    return row_all(thing, name) and rising(thing)


def state(thing):
    return row_all(thing, lambda pair: row_of(pair, place, lambda what: fits(pair[0], what))) \
        and rising([pair[0] for pair in thing])


def writes(thing):
    return row_all(thing, lambda pair: row_of(pair, place, lambda what: what is None or fits(pair[0], what))) \
        and rising([pair[0] for pair in thing]) and len({pair[0][1] for pair in thing}) == 1


def done(cells, more):
    there = dict(cells)
    there.update(more)
    return tuple(sorted((where, what) for where, what in there.items() if what is not None))


def columns(cells, table):
    if (("table", table), True) not in cells:
        return ()
    there = dict(cells)
    return tuple(sorted((where[2], what) for where, what in cells if where[:2] == ("slot", table)
                        and there.get(("name", table, what)) == where[2] and ("column", table, what) in there))


def shown(cells, table, row, column):
    there = dict(cells)
    fit = {"number": (int,), "word": (str,), "any": (int, str)}[there.get(("kind", table, column), "any")]
    both = [there.get(("cell", table, row, column)), there.get(("else", table, column))]
    return next((each for each in both if type(each) in fit), None)


def rows(cells, table):
    if (("table", table), True) not in cells:
        return ()
    found = []
    for where, _ in cells:
        if where[:2] == ("row", table):
            pairs = [(each, shown(cells, table, where[2], column)) for each, column in columns(cells, table)]
            found.append((where[2], tuple(pair for pair in pairs if pair[1] is not None)))
    return tuple(sorted(found))


def deed_name(thing):
    return row_of(thing, name, lambda part: whole(part, 0, 7), name, lambda part: whole(part, 0, 10 ** 6))


def what(thing, table):
    if row_of(thing, word("writes"), writes):
        return thing[1][0][0][1] == table
    return row_of(thing, word("strike"), deed_name) and thing[1][0] == table


def web(thing):
    formed = row_all(thing, lambda deed: row_of(
        deed, deed_name, lambda knows: row_all(knows, deed_name), lambda part: what(part, deed[0][0])))
    if not formed or not rising([deed[0] for deed in thing]):
        return False
    known = {each: set(knows) for each, knows, _ in thing}
    for each, knows, part in thing:
        if not rising(knows) or not known[each] <= set(known) or each in knows:
            return False
        if any(not known[below] <= known[each] for below in knows):
            return False
        if part[0] == "strike" and part[1] not in knows:
            return False
    return True


def lot(deeds, thing):
    if not row_all(thing, deed_name) or not rising(thing):
        return False
    known = {each: set(knows) for each, knows, _ in deeds}
    return all(each in known and known[each] <= set(thing) for each in thing)


def stands(deeds, members, each):
    """By the words of point [9] alone: no standing strike of the lot names it."""
    return not any(deed in members and part == ("strike", each) and stands(deeds, members, deed)
                   for deed, _, part in deeds)


def standing(deeds, members):
    return tuple(each for each in members if stands(deeds, members, each))


def writers(deeds, members):
    upright = standing(deeds, members)
    return [each for each, _, part in deeds if each in upright and part[0] == "writes"]


def order(deeds, members, thing):
    due = writers(deeds, members)
    if not row_all(thing, deed_name) or sorted(thing) != sorted(due):
        return False
    known = {each: knows for each, knows, _ in deeds}
    return all(thing.index(below) < thing.index(each) for each in due for below in known[each] if below in due)


def orders(deeds, members):
    """All orders, one by one, as each beginning can go on: of few deeds alone."""
    due = writers(deeds, members)
    known = {each: [below for below in knows if below in due] for each, knows, _ in deeds}
    found = [()]
    for _ in due:
        found = [row + (each,) for row in found for each in due
                 if each not in row and all(below in row for below in known[each])]
    return found


def state_by(deeds, row):
    parts = {each: part for each, _, part in deeds}
    cells = ()
    for each in row:
        cells = done(cells, parts[each][1])
    return cells


def ends(deeds, members):
    """The unlike states by all orders, each with the first order by which it comes: of few deeds alone."""
    found = {}
    for row in orders(deeds, members):
        found.setdefault(state_by(deeds, row), row)
    return found


def written_at(deeds, members, where):
    """What the standing deeds write at the place, by their names."""
    due = writers(deeds, members)
    return {each: dict(part[1])[where] for each, _, part in deeds if each in due and where in dict(part[1])}


def lasts(deeds, members, where):
    there = written_at(deeds, members, where)
    known = {below for each, knows, _ in deeds if each in there for below in knows}
    return tuple(sorted(each for each in there if each not in known))


def reading(deeds, members, where):
    there = written_at(deeds, members, where)
    return tuple(sorted({there[each] for each in lasts(deeds, members, where)}, key=repr))


def places(deeds, members):
    due = writers(deeds, members)
    return sorted({where for each, _, part in deeds if each in due for where, _ in part[1]})


def clashes(deeds, members):
    return tuple(where for where in places(deeds, members) if len(reading(deeds, members, where)) > 1)


def why(deeds, members, where, thing):
    """Whether the thing is such a paper: each word of point [12] in turn."""
    if row_of(thing, word("clash"), lambda row: order(deeds, members, row), lambda row: order(deeds, members, row)):
        return dict(state_by(deeds, thing[1])).get(where) != dict(state_by(deeds, thing[2])).get(where)
    if not row_of(thing, word("agreed"), lambda part: part is None or fits(where, part), lambda part: True):
        return False
    there = written_at(deeds, members, where)
    if thing[1] not in (there.values() if there else [None]):
        return False
    if not row_all(thing[2], lambda pair: row_of(pair, deed_name, deed_name)):
        return False
    due = sorted(each for each in there if there[each] != thing[1])
    knows = {each: below for each, below, _ in deeds}
    return [writer for writer, _ in thing[2]] == due and all(
        by in there and writer in knows[by] for writer, by in thing[2])


def way_by(deeds, members, row):
    """Who comes last of those that write each clashing place, by the order."""
    found = []
    for where in clashes(deeds, members):
        there = written_at(deeds, members, where)
        found.append((where, [each for each in row if each in there][-1]))
    return tuple(found)


def ways(deeds, members):
    return tuple(sorted({way_by(deeds, members, row) for row in orders(deeds, members)}))
