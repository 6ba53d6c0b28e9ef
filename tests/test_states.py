"""Stage 1, promises 4, 5 and 6: states, writes done on them, states of some tables."""

import unittest

from forkrolls.cells.states import done, is_state, of_tables, value_at
from forkrolls.errors import NoName, NoPlace, NoState, NoWrites
from tests import plain
from tests.test_places import NO_PLACES, NO_WRITES, PLACES, STANDING, WRITES
from tests.things import ANYTHING, IDENT, OTHER, Case, Chance, bent

ALL = tuple(sorted(zip(PLACES, STANDING)))
TWO = tuple(sorted([(("table", "a"), True), (("table", "b"), True), (("row", "a", 2), True), (("row", "a", 10), True),
                    (("row", "b", 1), True), (("cell", "b", 1, IDENT), "key"), (("slot", "c", "x"), OTHER)]))
STATES = [(), ((("table", "a"), True),), ALL, TWO]
NO_STATES = [thing for thing in NO_WRITES if thing not in ((), NO_WRITES[1], NO_WRITES[2])] + [
    ((("table", "a"), None),), ((("cell", "a", 0, IDENT), None),), TWO[::-1], TWO + TWO[-1:], (None,), ((),)]
WRONG_STATES = [thing for thing in ANYTHING if not plain.state(thing)] + NO_STATES


def made_state(chance, many, tables=("a", "b")):
    """A state of some of few places, so that they have to do with one another."""
    idents = [(0, "main", 0), (0, "main", 1), (1, "b", 0)]
    cells = {}
    for _ in range(many):
        table, ident = chance.one(tables), chance.one(idents)
        name, key = chance.one(["x", "y", "z"]), chance.one([0, 2, 10])
        value = chance.one([0, 1, -3, 10 ** 9, "x", "key", "word"])
        place, what = chance.one([
            (("table", table), True), (("column", table, ident), True), (("name", table, ident), name),
            (("slot", table, name), ident), (("kind", table, ident), chance.one(["number", "word", "any"])),
            (("else", table, ident), value), (("row", table, key), True), (("cell", table, key, ident), value)])
        cells[place] = what
    return tuple(sorted(cells.items()))


def made_writes(chance, table, many):
    """Writes of a table, some of them None."""
    cells = made_state(chance, many, (table,)) or ((("table", table), True),)
    return tuple((place, chance.one([what, what, None])) for place, what in cells)


class States(Case):
    def test_states(self):
        for state in STATES:
            self.whether(True, is_state, state)

    def test_no_states(self):
        for thing in NO_STATES:
            self.whether(False, is_state, thing)

    def test_states_of_anything(self):
        for thing in ANYTHING:
            self.whether(plain.state(thing), is_state, thing)
            self.whether(plain.state((thing,)), is_state, (thing,))
            for place in PLACES:
                self.whether(plain.state(((place, thing),)), is_state, ((place, thing),))
            for odd in ((("row", "a", thing), True), (("slot", "a", thing), IDENT), ((thing, "a"), True)):
                beside = ((("row", "a", 0), True), (("slot", "a", "b"), IDENT), odd)
                self.whether(plain.state(beside), is_state, beside)

    def test_states_bent(self):
        for sound in STATES:
            for thing in bent(sound):
                self.whether(plain.state(thing), is_state, thing)


class Done(Case):
    def test_put_and_take_out(self):
        state = ((("cell", "a", 5, IDENT), 1), (("row", "a", 5), True), (("table", "a"), True))
        writes = ((("cell", "a", 5, IDENT), None), (("row", "a", 2), True), (("row", "a", 5), True),
                  (("row", "a", 10), True), (("row", "a", 99), None))
        self.tells(((("row", "a", 2), True), (("row", "a", 5), True), (("row", "a", 10), True),
                    (("table", "a"), True)), done, state, writes)

    def test_each_word(self):
        for place, thing in zip(PLACES, STANDING):
            self.tells(((place, thing),), done, (), ((place, thing),))
            self.tells((), done, ((place, thing),), ((place, None),))
            self.tells((), done, (), ((place, None),))
        self.tells(ALL, done, (), ALL)
        self.tells((), done, ALL, tuple((place, None) for place, _ in ALL))

    def test_what_stood_gives_way(self):
        place = ("cell", "a", 0, IDENT)
        for old, new in [(0, 1), (1, 0), (0, "x"), ("key", -(10 ** 9)), (5, 5)]:
            self.tells(((place, new),), done, ((place, old),), ((place, new),))

    def test_nought_is_no_none(self):
        place = ("else", "a", IDENT)
        self.tells(((place, 0),), done, (), ((place, 0),))
        self.tells(0, value_at, ((place, 0),), place)

    def test_other_tables_stay(self):
        self.tells(tuple(pair for pair in TWO if pair[0] != ("row", "a", 2)), done, TWO, ((("row", "a", 2), None),))

    def test_as_plainly(self):
        chance = Chance(11)
        for _ in range(300):
            state = made_state(chance, chance.below(20))
            writes = made_writes(chance, chance.one(["a", "b"]), 1 + chance.below(8))
            self.tells(plain.done(state, writes), done, state, writes)
            self.whether(True, is_state, done(state, writes))

    def test_great_states_may_be_handed_on(self):
        state = ()
        for start in (2000, 0, 1000):
            state = done(state, tuple((("row", "a", start + at), True) for at in range(400)))
        self.assertEqual(len(state), 1200)
        self.whether(True, is_state, state)
        self.assertEqual([place[2] for place, _ in state],
                         [*range(400), *range(1000, 1400), *range(2000, 2400)])
        self.tells(True, value_at, state, ("row", "a", 2399))
        self.tells(None, value_at, state, ("row", "a", 400))

    def test_no_state(self):
        for thing in WRONG_STATES:
            self.refused(NoState, done, thing, WRITES[0])
            self.refused(NoState, done, thing, ())
            self.refused(NoState, done, thing, None)

    def test_no_writes(self):
        for thing in [thing for thing in ANYTHING if not plain.writes(thing)] + NO_WRITES:
            self.refused(NoWrites, done, (), thing)
            self.refused(NoWrites, done, TWO, thing)


class ValueAt(Case):
    def test_what_stands(self):
        for place, thing in ALL:
            self.tells(thing, value_at, ALL, place)
            self.tells(None, value_at, (), place)
            self.tells(None, value_at, tuple(pair for pair in ALL if pair[0] != place), place)

    def test_another_place(self):
        self.tells(None, value_at, TWO, ("row", "a", 1))
        self.tells(None, value_at, TWO, ("row", "b", 2))
        self.tells(None, value_at, TWO, ("cell", "b", 1, OTHER))
        self.tells("key", value_at, TWO, ("cell", "b", 1, IDENT))

    def test_refused(self):
        for thing in WRONG_STATES:
            self.refused(NoState, value_at, thing, ("table", "a"))
            self.refused(NoState, value_at, thing, "no place")
        for thing in NO_PLACES + [thing for thing in ANYTHING if not plain.place(thing)]:
            self.refused(NoPlace, value_at, (), thing)
            self.refused(NoPlace, value_at, TWO, thing)


class OfTables(Case):
    def test_just_these(self):
        for tables in [(), ("a",), ("b",), ("a", "b"), ("a", "c"), ("a", "b", "c"), ("d",), ("abcdefgh",)]:
            self.tells(tuple(pair for pair in TWO if pair[0][1] in tables), of_tables, TWO, tables)
            self.tells((), of_tables, (), tables)
        self.tells(TWO, of_tables, TWO, ("a", "b", "c"))

    def test_refused(self):
        for thing in WRONG_STATES:
            self.refused(NoState, of_tables, thing, ("a",))
            self.refused(NoState, of_tables, thing, "a")
        wrong = [("b", "a"), ("a", "a"), ("a", "key"), ("a", 0), (0, "a"), ("a", None), ("a", ("b",)), ["a"], "a",
                 {"a": 0}, (["a"],), ("A",), ("abcdefghi",), ("a", []), (True,), None, 0]
        for thing in wrong + [thing for thing in ANYTHING if not plain.names(thing)]:
            self.refused(NoName, of_tables, (), thing)
            self.refused(NoName, of_tables, TWO, thing)


if __name__ == "__main__":
    unittest.main()
