"""What DOC.md says of rights, remnants and the store, once more, as plainly as can be.

A plain store keeps all deeds ever done in a FULL web, in which nothing is
pruned, and beside it the web that a store is to have. What is read, asked and
written comes of the full one: what pruning takes is missed nowhere.
"""

from tests import plain, plain_asks
from tests.grids import by_text
from tests.plain_asks import Refused

MAIN = (0, "main")


def strike_of(what):
    return what[1] if what[0] == "strike" else None


def shaken(web, lots):
    """By the words of point [29], each round anew until nothing more is shaken."""
    whats = {name: what for name, _, what in web}
    every = set().union(*lots)
    shared = set(lots[0]).intersection(*lots)
    found = {strike_of(whats[name]) for name in every - shared} & shared
    while True:
        more = found | {strike_of(whats[name]) for name in found} - {None}
        if more == found:
            return tuple(sorted(found))
        found = more


def remnant(web, lots):
    """By the words of point [30]."""
    every = set().union(*lots)
    shared = tuple(sorted(set(lots[0]).intersection(*lots)))
    loose = shaken(web, lots)
    whats = {name: what for name, _, what in web}
    knows = {name: known for name, known, _ in web}
    firm = [name for name in plain.standing(web, shared) if name not in loose]
    left = {name: whats[name] for name in every if name not in shared or name in loose}
    for name in firm:
        if whats[name][0] == "writes":
            own = tuple((place, value) for place, value in whats[name][1] if not any(
                whats[other][0] == "writes" and place in dict(whats[other][1]) and name in knows[other]
                for other in firm))
            if own:
                left[name] = ("writes", own)
    while True:
        more = {name: whats[name] for name in firm if strike_of(whats[name]) in left and name not in left}
        if not more:
            break
        left.update(more)
    kept = tuple((name, tuple(each for each in known if each in left), left[name])
                 for name, known, _ in web if name in left)
    return kept, tuple(name for name in shared if name in left)


def root(web, name):
    what = dict((each, part) for each, _, part in web)[name]
    return name if what[0] == "writes" else root(web, what[1])


def seen(web, tables):
    return tuple((name, tuple(each for each in knows if each[0] in tables), what)
                 for name, knows, what in web if name[0] in tables)


def takes_out(web, name):
    what = dict((each, part) for each, _, part in web)[name]
    return (("table", name[0]), None) in what[1]


def need(used, web, lot, deed):
    if deed[0] == "end":
        return 3
    if deed[0] == "table":
        return 3 if deed[1] in used else 0
    if deed[0] == "undo" and deed[1:] in lot:
        return 3 if takes_out(web, root(web, deed[1:])) else 2
    return 2


class PlainRights:
    def __init__(self):
        self.levels = {}

    def level(self, table, hand):
        return 3 if hand == 0 else self.levels.get(table, {}).get(hand, 0)

    def use(self, hand, table):
        if table in self.levels:
            return False
        self.levels[table] = {hand: 3}
        return True

    def grant(self, hand, table, other, level):
        if other == 0:
            raise Refused("NoHand")
        if not plain.whole(level, 0, 3):
            raise Refused("NoNumber")
        if self.level(table, hand) != 3:
            raise Refused("NoRight")
        if table not in self.levels:
            raise Refused("NoTable")
        self.levels[table][other] = level

    def granted(self, table):
        return tuple((hand, self.levels.get(table, {}).get(hand, 0)) for hand in range(1, 8)
                     if self.levels.get(table, {}).get(hand, 0) > 0)

    def seen(self, hand):
        return tuple(table for table in sorted(self.levels) if self.level(table, hand) > 0)


class PlainStore:
    def __init__(self):
        self.full = ()
        self.web = ()
        # Of each branch and mark whether it is a branch, its lot of the full web, its lot of the web.
        self.held = {MAIN: (True, (), ())}
        self.shared = set()
        self.given = {MAIN}
        self.numbers = {}
        self.rights = PlainRights()
        self.settled = ()

    def at(self, hand, at):
        if at not in self.held or not (hand in (0, at[0]) or (at, hand) in self.shared):
            raise Refused("NoBranch", at)
        return self.held[at]

    def own(self, hand, at):
        self.at(hand, at)
        if hand not in (0, at[0]):
            raise Refused("NoBranch", at)

    def into(self, hand, name):
        if not self.held.get((hand, name), (False,))[0]:
            raise Refused("NoBranch", (hand, name))
        return (hand, name)

    def given_now(self, hand, name, at, branch):
        _, full, lot = self.at(hand, at)
        if (hand, name) in self.given:
            raise Refused("Taken")
        self.given.add((hand, name))
        self.held[(hand, name)] = (branch, full, lot)
        return (hand, name)

    def fork(self, hand, name, at):
        return self.given_now(hand, name, at, True)

    def mark(self, hand, name, at):
        return self.given_now(hand, name, at, False)

    def right(self, hand, table, due):
        if self.rights.level(table, hand) < due:
            raise Refused("NoRight")

    def do(self, hand, name, deed):
        into = self.into(hand, name)
        _, full, lot = self.held[into]
        table = deed[1]
        self.right(hand, table, need(self.rights.levels, self.web, lot, deed))
        if deed[0] == "undo":
            if deed[1:] not in lot:
                raise Refused("Lacking", deed[1:])
            if deed[1:] in self.settled:
                raise Refused("Settled", deed[1:])
            if not plain.stands(self.web, lot, deed[1:]):
                raise Refused("Undone", deed[1:])
            what = ("strike", deed[1:])
        else:
            what = plain_asks.part_of(self.full, full, (*into, self.number(into, table)), deed)
        return self.add(into, table, what)

    def number(self, into, table):
        return self.numbers.get((table, *into), -1) + 1

    def add(self, into, table, what):
        branch, full, lot = self.held[into]
        if sum(each[0] == table for each in lot) >= 60:
            raise Refused("TooWide")
        name = (table, *into, self.number(into, table))
        self.full = tuple(sorted(self.full + ((name, full, what),)))
        self.web = tuple(sorted(self.web + ((name, lot, what),)))
        self.held[into] = (branch, tuple(sorted(full + (name,))), tuple(sorted(lot + (name,))))
        self.numbers[(table, *into)] = name[3]
        self.rights.use(into[0], table)
        return name

    def pick(self, hand, name, at, deed):
        into = self.into(hand, name)
        view = self.view(hand, at)
        whats = {each: what for each, _, what in view}
        if not plain.deed_name(deed) or deed not in whats:
            raise Refused("Lacking", deed)
        if deed in self.settled:
            raise Refused("Settled", deed)
        if whats[deed][0] == "strike":
            raise Refused("NoDeed")
        self.right(hand, deed[0], 3 if takes_out(view, deed) else 2)
        return self.add(into, deed[0], whats[deed])

    def merge(self, hand, name, at, strict=False):
        into = self.into(hand, name)
        other, own = self.at(hand, at), self.held[into]
        both = tuple(sorted({*own[1], *other[1]}))
        if strict:
            old = {*plain.clashes(self.full, own[1]), *plain.clashes(self.full, other[1])}
            for place in plain.clashes(self.full, both):
                if place[1] in self.rights.seen(hand) and place not in old:
                    raise Refused("Clashes", place)
        self.held[into] = (True, both, tuple(sorted({*own[2], *other[2]})))

    def strict(self, hand, name, at):
        self.merge(hand, name, at, True)

    def grant(self, hand, table, other, level):
        self.rights.grant(hand, table, other, level)

    def share(self, hand, at, other):
        self.own(hand, at)
        if other not in (0, at[0]):
            self.shared.add((at, other))

    def unshare(self, hand, at, other):
        self.own(hand, at)
        self.shared.discard((at, other))

    def drop(self, hand, at):
        self.own(hand, at)
        if at == MAIN:
            raise Refused("NoRight")
        del self.held[at]
        self.shared = {pair for pair in self.shared if pair[0] != at}

    def prune(self, hand):
        if hand != 0:
            raise Refused("NoRight")
        self.web, self.settled = remnant(self.web, [lot for _, _, lot in self.held.values()])
        left = {name for name, _, _ in self.web}
        self.held = {at: (branch, full, tuple(name for name in lot if name in left))
                     for at, (branch, full, lot) in self.held.items()}

    def names(self, hand):
        return tuple(sorted((*at, self.held[at][0]) for at in self.held
                            if hand in (0, at[0]) or (at, hand) in self.shared))

    def tables(self, hand):
        return self.rights.seen(hand)

    def view(self, hand, at):
        lot = self.at(hand, at)[2]
        return seen(tuple(deed for deed in self.web if deed[0] in lot), self.tables(hand))

    def full_view(self, hand, at):
        """As view, had nothing ever been pruned."""
        lot = self.at(hand, at)[1]
        return seen(tuple(deed for deed in self.full if deed[0] in lot), self.tables(hand))

    def reading(self, hand, at, place):
        lot = self.at(hand, at)[1]
        return plain.reading(self.full, lot, place) if place[1] in self.tables(hand) else ()

    def ends(self, hand, at):
        """The states of plain stores that do just the standing deeds that the hand sees, by all orders."""
        view = self.full_view(hand, at)
        return list(plain.ends(view, tuple(name for name, _, _ in view)))


def sure_and_perhaps(states, question):
    told = [plain_asks.answer(state, question) for state in states]
    every = {row for rows in told for row in rows}
    sure = {row for row in every if all(row in rows for rows in told)}
    return by_text(*sure), by_text(*(every - sure))
