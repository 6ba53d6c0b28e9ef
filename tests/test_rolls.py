"""Stage 2, promises 1 to 5: tables, columns and rows that a state is read as."""

import unittest

from forkrolls.cells.rolls import columns_of, row_of, rows_of, tables_of
from forkrolls.cells.states import done
from forkrolls.errors import NoKey, NoName, NoState
from tests import plain
from tests.test_states import WRONG_STATES, made_state
from tests.things import ANYTHING, Case, Chance

TITLE, PAGES, NOTE, LOST = (0, "main", 0), (0, "main", 1), (7, "b", 10 ** 6), (1, "c", 0)


def state_of(*cells):
    return tuple(sorted(cells))


def column(name, ident, kind=None, other=None):
    cells = [(("column", "books", ident), True), (("name", "books", ident), name), (("slot", "books", name), ident)]
    cells += [(("kind", "books", ident), kind)] if kind is not None else []
    return cells + ([(("else", "books", ident), other)] if other is not None else [])


BASE = [(("table", "books"), True), (("row", "books", 10), True), (("row", "books", 2), True)]
BOOKS = state_of(
    *BASE, *column("title", TITLE, "word"), *column("pages", PAGES, "number", 0), *column("note", NOTE),
    (("cell", "books", 2, TITLE), "emma"), (("cell", "books", 2, PAGES), 300), (("cell", "books", 2, NOTE), "key"),
    (("cell", "books", 10, NOTE), -1), (("cell", "books", 10, TITLE), 5), (("cell", "books", 3, TITLE), "ghost"),
    (("cell", "books", 10, LOST), 7), (("table", "empty"), True), (("row", "gone", 1), True),
    (("column", "gone", TITLE), True), (("name", "gone", TITLE), "x"), (("slot", "gone", "x"), TITLE))


class Tables(Case):
    def test_tables(self):
        self.tells(("books", "empty"), tables_of, BOOKS)
        self.tells((), tables_of, ())
        self.tells((), tables_of, state_of((("row", "books", 1), True), (("slot", "a", "b"), TITLE)))


class Columns(Case):
    def test_columns(self):
        self.tells((("note", NOTE), ("pages", PAGES), ("title", TITLE)), columns_of, BOOKS, "books")
        self.tells((), columns_of, BOOKS, "empty")

    def test_none_of_a_table_that_isnt_there(self):
        self.tells((), columns_of, BOOKS, "gone")
        self.tells((), columns_of, BOOKS, "never")
        self.tells((), columns_of, (), "books")

    def test_all_three_are_needed(self):
        whole = column("title", TITLE)
        self.tells((("title", TITLE),), columns_of, state_of(*BASE, *whole), "books")
        for missing in whole:
            left = state_of(*BASE, *(cell for cell in whole if cell != missing))
            self.tells((), columns_of, left, "books")
            self.tells(((2, ()), (10, ())), rows_of, left, "books")

    def test_columns_of_one_name(self):
        both = column("title", TITLE)[:2] + column("title", PAGES)
        self.tells((("title", PAGES),), columns_of, state_of(*BASE, *both), "books")

    def test_slots_that_lead_elsewhere(self):
        for slot in [(("slot", "books", "title"), PAGES), (("slot", "books", "other"), TITLE)]:
            self.tells((), columns_of, state_of(*BASE, *column("title", TITLE)[:2], slot), "books")
        two = column("title", TITLE) + [(("slot", "books", "other"), TITLE)]
        self.tells((("title", TITLE),), columns_of, state_of(*BASE, *two), "books")

    def test_another_tables_parts_are_not_its_own(self):
        for at in range(3):
            cells = column("title", TITLE)
            (word, _, rest), what = cells[at]
            cells[at] = ((word, "empty", rest), what)
            self.tells((), columns_of, state_of(*BASE, (("table", "empty"), True), *cells), "books")
            self.tells((), columns_of, state_of(*BASE, (("table", "empty"), True), *cells), "empty")


class Rows(Case):
    def test_rows(self):
        self.tells(((2, (("note", "key"), ("pages", 300), ("title", "emma"))), (10, (("note", -1), ("pages", 0)))),
                   rows_of, BOOKS, "books")
        self.tells((), rows_of, BOOKS, "empty")
        self.tells((), rows_of, BOOKS, "gone")
        self.tells((), rows_of, BOOKS, "never")
        self.tells((), rows_of, (), "books")

    def test_row(self):
        self.tells((("note", "key"), ("pages", 300), ("title", "emma")), row_of, BOOKS, "books", 2)
        self.tells((("note", -1), ("pages", 0)), row_of, BOOKS, "books", 10)
        for table, key in [("books", 3), ("books", 0), ("books", 10 ** 9), ("empty", 2), ("gone", 1), ("never", 2)]:
            self.tells(None, row_of, BOOKS, table, key)
        self.tells(None, row_of, (), "books", 2)

    def test_a_row_of_no_pairs_is_there(self):
        self.tells((), row_of, state_of(*BASE), "books", 2)
        self.tells(((2, ()), (10, ())), rows_of, state_of(*BASE), "books")

    def test_edges_of_keys(self):
        state = state_of((("table", "a"), True), (("row", "a", 0), True), (("row", "a", 10 ** 9), True))
        self.tells(((0, ()), (10 ** 9, ())), rows_of, state, "a")
        self.tells((), row_of, state, "a", 0)
        self.tells((), row_of, state, "a", 10 ** 9)

    def test_kinds(self):
        for kind, cell, other, wanted in [
                ("number", 5, None, 5), ("number", "x", None, None), ("number", "x", 0, 0), ("number", "x", "y", None),
                ("number", None, 3, 3), ("number", None, "y", None), ("number", 0, 9, 0), ("number", 5, "y", 5),
                ("word", "x", None, "x"), ("word", 0, None, None), ("word", 0, "y", "y"), ("word", 5, 6, None),
                ("word", None, "y", "y"), ("word", None, 0, None), ("word", "x", "y", "x"), ("word", "x", 6, "x"),
                ("any", 5, "y", 5), ("any", "x", 6, "x"), ("any", None, "y", "y"), ("any", None, 0, 0),
                ("any", None, None, None), (None, 5, "y", 5), (None, "x", 6, "x"), (None, None, "y", "y"),
                (None, None, 0, 0), (None, None, None, None), (None, 0, 5, 0), ("number", None, None, None)]:
            cells = column("title", TITLE, kind, other)
            cells += [(("cell", "books", 2, TITLE), cell)] if cell is not None else []
            pairs = (("title", wanted),) if wanted is not None else ()
            self.tells(pairs, row_of, state_of(*BASE, *cells), "books", 2)

    def test_kinds_of_another_column_say_nothing(self):
        cells = column("title", TITLE, "word") + column("pages", PAGES) + [(("cell", "books", 2, PAGES), 5)]
        self.tells((("pages", 5),), row_of, state_of(*BASE, *cells), "books", 2)


class AnyState(Case):
    def test_as_plainly(self):
        chance = Chance(5)
        for _ in range(400):
            state = made_state(chance, chance.below(40))
            tables = tuple(table for table in ("a", "b") if (("table", table), True) in state)
            self.tells(tables, tables_of, state)
            for table in ("a", "b", "c"):
                rows = plain.rows(state, table)
                self.tells(plain.columns(state, table), columns_of, state, table)
                self.tells(rows, rows_of, state, table)
                for key in (0, 1, 2, 10):
                    self.tells(dict(rows).get(key), row_of, state, table, key)

    def test_it_holds_together(self):
        chance = Chance(6)
        for _ in range(200):
            state = made_state(chance, 40)
            for table in tables_of(state):
                columns, rows = columns_of(state, table), rows_of(state, table)
                self.assertTrue(plain.rising([name for name, _ in columns]))
                self.assertEqual(len({ident for _, ident in columns}), len(columns))
                self.assertTrue(plain.rising([key for key, _ in rows]))
                for _, pairs in rows:
                    self.assertTrue(plain.rising([name for name, _ in pairs]))
                    self.assertLessEqual({name for name, _ in pairs}, set(dict(columns)))


def all_told(state):
    """All that is told of a state, each part by a name of its own."""
    found = {("table", table): True for table in tables_of(state)}
    for table in ("a", "b"):
        found.update({("column", table, name, ident): True for name, ident in columns_of(state, table)})
        for key, pairs in rows_of(state, table):
            found[("row", table, key)] = True
            found.update({("pair", table, key, name): value for name, value in pairs})
    return found


def may_move(place, part, before, behind):
    """Whether what is told may be another where just this place is written."""
    word, table, *rest = place
    if part[1] != table:
        return False
    if word == "table":
        return True
    if word == "row":
        return part[0] in ("row", "pair") and part[2] == rest[0]
    if word == "slot":
        names = [rest[0]]
    else:
        columns = [each[2:] for told in (before, behind) for each in told if each[:2] == ("column", table)]
        names = [name for name, ident in columns if ident == rest[-1]]
    if part[0] == "column":
        return word in ("slot", "name", "column") and part[2] in names
    if part[0] == "pair":
        return part[3] in names and (word != "cell" or part[2] == rest[0])
    return False


class Moves(Case):
    def test_each_write_moves_its_own_alone(self):
        chance = Chance(7)
        moved = set()
        for _ in range(300):
            state = made_state(chance, 45)
            for place, what in made_state(chance, 6):
                for thing in (what, None):
                    before, behind = all_told(state), all_told(done(state, ((place, thing),)))
                    for part in {*before, *behind}:
                        if repr(before.get(part)) != repr(behind.get(part)):
                            self.assertTrue(may_move(place, part, before, behind), (place, part))
                            moved.add(place[0])
        self.assertEqual(len(moved), 8)

    def test_by_hand(self):
        def rows(*writes):
            return rows_of(done(BOOKS, tuple(sorted(writes))), "books")
        two, ten = rows_of(BOOKS, "books")
        self.assertEqual(rows((("cell", "books", 10, PAGES), 9)), (two, (10, (("note", -1), ("pages", 9)))))
        self.assertEqual(rows((("cell", "books", 10, NOTE), None)), (two, (10, (("pages", 0),))))
        self.assertEqual(rows((("row", "books", 2), None)), (ten,))
        self.assertEqual(rows((("row", "books", 3), True)),
                         (two, (3, (("pages", 0), ("title", "ghost"))), ten))
        self.assertEqual(rows((("kind", "books", TITLE), None))[1], (10, (("note", -1), ("pages", 0), ("title", 5))))
        self.assertEqual(rows((("else", "books", PAGES), None))[1], (10, (("note", -1),)))
        self.assertEqual(rows((("column", "books", NOTE), None))[1], (10, (("pages", 0),)))
        self.assertEqual(rows((("name", "books", NOTE), "memo"))[1], (10, (("pages", 0),)))
        self.assertEqual(rows((("name", "books", NOTE), "memo"), (("slot", "books", "memo"), NOTE))[1],
                         (10, (("memo", -1), ("pages", 0))))
        self.assertEqual(rows((("slot", "books", "note"), TITLE))[1], (10, (("pages", 0),)))
        self.assertEqual(rows((("table", "books"), None)), ())


class Refused(Case):
    def test_no_state(self):
        for thing in WRONG_STATES:
            self.refused(NoState, tables_of, thing)
            for name in ("books", "key", None):
                self.refused(NoState, columns_of, thing, name)
                self.refused(NoState, rows_of, thing, name)
                self.refused(NoState, row_of, thing, name, -1)
                self.refused(NoState, row_of, thing, name, 5)

    def test_no_name(self):
        for thing in [thing for thing in ANYTHING if not plain.name(thing)] + [("books",), ["books"]]:
            for state in (BOOKS, ()):
                self.refused(NoName, columns_of, state, thing)
                self.refused(NoName, rows_of, state, thing)
                self.refused(NoName, row_of, state, thing, 2)
                self.refused(NoName, row_of, state, thing, None)

    def test_no_key(self):
        for thing in [thing for thing in ANYTHING if not plain.key(thing)]:
            self.refused(NoKey, row_of, BOOKS, "books", thing)
            self.refused(NoKey, row_of, BOOKS, "never", thing)
            self.refused(NoKey, row_of, (), "books", thing)


if __name__ == "__main__":
    unittest.main()
