"""Stage 4, promises 2 to 7: what is there, and what is made of a deed asked for."""

import unittest

from forkrolls.cells.rolls import columns_of, rows_of
from forkrolls.deeds.making import is_there, made
from forkrolls.errors import (
    Lacking, NoColumn, NoDeed, NoHand, NoLot, NoName, NoNumber, NoPlace, NoRow, NoTable, NoWeb, Taken, TooWide, Undone)
from forkrolls.readings.lasts import clashes, reading
from forkrolls.webs.lots import is_lot
from forkrolls.webs.orders import order_of, state_by
from forkrolls.webs.webs import is_web
from tests import plain, plain_asks
from tests.knots import BASE, CELL, ELSE, GONE, LEFT, ROW, STORY, STRUCK, WRONG_PLACES, lot_of, whole
from tests.looms import SMALL, WHOLE, WRONG_LOTS, WRONG_WEBS, beside, stacked, web_of
from tests.test_forms import WRONG_DEEDS
from tests.things import ANYTHING, Case, Chance
from tests.weaver import Weaver, any_deed, woven

MAIN, SIDE = (0, "main"), (3, "side")
X, Y, Z, NOWHERE = (0, "main", 1), (0, "main", 2), (0, "main", 3), (7, "main", 1)
TABLE = (("table", "a"), True)
ERRORS = {error.__name__: error for error in (NoNumber, NoTable, NoColumn, NoRow, Taken, Lacking, Undone, TooWide)}
WRONG_HANDS = [thing for thing in ANYTHING if not plain.whole(thing, 0, 7)]
WRONG_BRANCHES = [thing for thing in ANYTHING if not plain.name(thing)]
WRONG_NUMBERS = [thing for thing in ANYTHING if thing is not None and not plain.whole(thing, 0, 10 ** 6)]


def began():
    """A table of three columns and two rows on main, and a side forked of it."""
    weaver = Weaver()
    for asked in [("table", "a"), ("column", "a", "x", "number", None), ("column", "a", "y", "any", 7),
                  ("column", "a", "z", "word", "none"), ("put", "a", 5, ((X, 1), (Y, "w"))), ("put", "a", 6, ())]:
        weaver.do(MAIN, *asked)
    weaver.fork(MAIN, SIDE)
    return weaver


def state_of(weaver, *branches):
    lot = weaver.both(*branches)
    return state_by(weaver.web, lot, order_of(weaver.web, lot))


class Making(Case):
    def of(self, weaver, branch, asked, *pairs, number=None, wanted=None):
        """Made on the branch: the name of the number wanted, the lot, these writes."""
        lot = weaver.lots[branch]
        given = [name[3] for name, _, _ in weaver.web if name[:3] == (asked[1], *branch)]
        name = (asked[1], *branch, max(given, default=-1) + 1 if wanted is None else wanted)
        what = ("writes", tuple(sorted(pairs)))
        self.tells((name, lot, what), made, weaver.web, lot, *branch, asked, number=number)
        if number is None:
            self.tells((name, lot, what), made, weaver.web, lot, *branch, asked)


class ByHand(Making):
    def test_table(self):
        self.tells((("a", 0, "main", 0), (), ("writes", (TABLE,))), made, (), (), 0, "main", ("table", "a"))
        self.tells((("b", 7, "x", 0), (), ("writes", ((("table", "b"), True),))), made, SMALL, (), 7, "x",
                   ("table", "b"))
        weaver = began()
        weaver.do(MAIN, "end", "a")
        self.of(weaver, MAIN, ("table", "a"), TABLE)

    def test_column(self):
        self.of(began(), MAIN, ("column", "a", "new", "word", None), TABLE, (("column", "a", (0, "main", 6)), True),
                (("name", "a", (0, "main", 6)), "new"), (("slot", "a", "new"), (0, "main", 6)),
                (("kind", "a", (0, "main", 6)), "word"))
        own = (3, "side", 10 ** 6)
        self.of(began(), SIDE, ("column", "a", "new", "number", "text"), TABLE, (("column", "a", own), True),
                (("name", "a", own), "new"), (("slot", "a", "new"), own), (("kind", "a", own), "number"),
                (("else", "a", own), "text"), number=10 ** 6, wanted=10 ** 6)
        own = (3, "side", 0)
        self.of(began(), SIDE, ("column", "a", "new", "any", 0), TABLE, (("column", "a", own), True),
                (("name", "a", own), "new"), (("slot", "a", "new"), own), (("kind", "a", own), "any"),
                (("else", "a", own), 0))

    def test_call(self):
        weaver = began()
        self.of(weaver, MAIN, ("call", "a", X, "new"), TABLE, (("column", "a", X), True), (("name", "a", X), "new"),
                (("slot", "a", "new"), X), (("slot", "a", "x"), None))
        self.of(weaver, MAIN, ("call", "a", X, "x"), TABLE, (("column", "a", X), True), (("name", "a", X), "x"),
                (("slot", "a", "x"), X))

    def test_call_anew_and_back(self):
        weaver = began()
        weaver.do(MAIN, "call", "a", X, "new")
        self.of(weaver, MAIN, ("call", "a", X, "x"), TABLE, (("column", "a", X), True), (("name", "a", X), "x"),
                (("slot", "a", "x"), X), (("slot", "a", "new"), None))
        # Another one has the old name meanwhile: its slot is left alone.
        weaver.do(MAIN, "column", "a", "x", "any", None)
        self.refused(Taken, made, weaver.web, weaver.lots[MAIN], *MAIN, ("call", "a", X, "x"))
        self.of(weaver, MAIN, ("call", "a", X, "last"), TABLE, (("column", "a", X), True), (("name", "a", X), "last"),
                (("slot", "a", "last"), X), (("slot", "a", "new"), None))
        self.assertEqual(columns_of(state_of(weaver, MAIN), "a"),
                         (("new", X), ("x", (0, "main", 7)), ("y", Y), ("z", Z)))

    def test_call_beside_another_of_that_name(self):
        weaver = began()
        weaver.do(MAIN, "column", "a", "new", "any", None)
        weaver.do(SIDE, "column", "a", "new", "any", None)
        one, other = (0, "main", 6), (3, "side", 0)
        weaver.merge(MAIN, SIDE)
        self.assertEqual(reading(weaver.web, weaver.lots[MAIN], ("slot", "a", "new")), (one, other))
        self.refused(Taken, made, weaver.web, weaver.lots[MAIN], *MAIN, ("call", "a", one, "new"))
        # The slot reads both, so it has the id: it is emptied, whoever else is there.
        self.of(weaver, MAIN, ("call", "a", one, "last"), TABLE, (("column", "a", one), True),
                (("name", "a", one), "last"), (("slot", "a", "last"), one), (("slot", "a", "new"), None))
        self.of(weaver, MAIN, ("leave", "a", other), TABLE, (("column", "a", other), None),
                (("slot", "a", "new"), None))

    def test_a_slot_that_another_one_has(self):
        weaver = began()
        call = weaver.do(MAIN, "call", "a", X, "new")
        weaver.do(MAIN, "column", "a", "x", "any", None)
        weaver.do(MAIN, "undo", *call)
        lot = weaver.lots[MAIN]
        self.assertEqual(reading(weaver.web, lot, ("name", "a", X)), ("x",))
        self.assertEqual(reading(weaver.web, lot, ("slot", "a", "x")), ((0, "main", 7),))
        self.of(weaver, MAIN, ("call", "a", X, "last"), TABLE, (("column", "a", X), True), (("name", "a", X), "last"),
                (("slot", "a", "last"), X))
        self.of(weaver, MAIN, ("leave", "a", X), TABLE, (("column", "a", X), None))

    def test_a_name_taken_out(self):
        # By made no name is ever taken out; a web may have it so.
        name = ("a", 7, "other", 0)
        weaver = began()
        weaver.add((name, weaver.lots[MAIN], ("writes", ((("name", "a", X), None),))))
        weaver.lots[MAIN] = tuple(sorted(weaver.lots[MAIN] + (name,)))
        self.of(weaver, MAIN, ("call", "a", X, "last"), TABLE, (("column", "a", X), True), (("name", "a", X), "last"),
                (("slot", "a", "last"), X))
        self.of(weaver, MAIN, ("leave", "a", X), TABLE, (("column", "a", X), None))

    def test_call_of_two_names(self):
        weaver = began()
        weaver.do(MAIN, "call", "a", X, "one")
        weaver.do(SIDE, "call", "a", X, "two")
        weaver.merge(MAIN, SIDE)
        self.assertEqual(reading(weaver.web, weaver.lots[MAIN], ("name", "a", X)), ("one", "two"))
        self.of(weaver, MAIN, ("call", "a", X, "two"), TABLE, (("column", "a", X), True), (("name", "a", X), "two"),
                (("slot", "a", "two"), X), (("slot", "a", "one"), None))
        self.of(weaver, MAIN, ("call", "a", X, "x"), TABLE, (("column", "a", X), True), (("name", "a", X), "x"),
                (("slot", "a", "x"), X), (("slot", "a", "one"), None), (("slot", "a", "two"), None))
        self.of(weaver, MAIN, ("leave", "a", X), TABLE, (("column", "a", X), None), (("slot", "a", "one"), None),
                (("slot", "a", "two"), None))

    def test_kind_and_else(self):
        self.of(began(), MAIN, ("kind", "a", X, "any"), TABLE, (("column", "a", X), True), (("kind", "a", X), "any"))
        self.of(began(), MAIN, ("else", "a", X, "w"), TABLE, (("column", "a", X), True), (("else", "a", X), "w"))
        self.of(began(), MAIN, ("else", "a", X, None), TABLE, (("column", "a", X), True), (("else", "a", X), None))

    def test_put_and_blank(self):
        row = (("row", "a", 9), True)
        self.of(began(), MAIN, ("put", "a", 9, ()), TABLE, row)
        self.of(began(), MAIN, ("put", "a", 9, ((X, 3), (Y, "v"))), TABLE, row, (("column", "a", X), True),
                (("column", "a", Y), True), (("cell", "a", 9, X), 3), (("cell", "a", 9, Y), "v"))
        self.of(began(), MAIN, ("blank", "a", 5, Y), TABLE, (("row", "a", 5), True), (("column", "a", Y), True),
                (("cell", "a", 5, Y), None))
        self.of(began(), MAIN, ("blank", "a", 6, Z), TABLE, (("row", "a", 6), True), (("column", "a", Z), True),
                (("cell", "a", 6, Z), None))

    def test_six_cells(self):
        weaver = began()
        for name in ("p", "q", "r"):
            weaver.do(MAIN, "column", "a", name, "any", None)
        idents = [(0, "main", at) for at in (1, 2, 3, 6, 7, 8)]
        self.of(weaver, MAIN, ("put", "a", 9, tuple((ident, 0) for ident in idents)), TABLE, (("row", "a", 9), True),
                *((("column", "a", ident), True) for ident in idents),
                *((("cell", "a", 9, ident), 0) for ident in idents))
        seven = tuple(((0, "main", at), 0) for at in range(1, 8))
        self.refused(NoDeed, made, weaver.web, weaver.lots[MAIN], *MAIN, ("put", "a", 9, seven))

    def test_drop(self):
        self.of(began(), MAIN, ("drop", "a", 5), TABLE, (("row", "a", 5), None), (("cell", "a", 5, X), None),
                (("cell", "a", 5, Y), None))
        self.of(began(), MAIN, ("drop", "a", 6), TABLE, (("row", "a", 6), None))
        weaver = began()
        weaver.do(MAIN, "blank", "a", 5, Y)
        self.of(weaver, MAIN, ("drop", "a", 5), TABLE, (("row", "a", 5), None), (("cell", "a", 5, X), None))
        # A cell of a column that is out is there still.
        weaver.do(MAIN, "leave", "a", X)
        self.of(weaver, MAIN, ("drop", "a", 5), TABLE, (("row", "a", 5), None), (("cell", "a", 5, X), None))

    def test_leave(self):
        self.of(began(), MAIN, ("leave", "a", Y), TABLE, (("column", "a", Y), None), (("slot", "a", "y"), None))

    def test_end(self):
        weaver = began()
        gone = [(("table", "a"), None), (("row", "a", 5), None), (("row", "a", 6), None), (("cell", "a", 5, X), None),
                (("cell", "a", 5, Y), None)] + [(("column", "a", each), None) for each in (X, Y, Z)] + [
                    (("slot", "a", name), None) for name in ("x", "y", "z")]
        self.of(weaver, MAIN, ("end", "a"), *gone)
        weaver.do(MAIN, "leave", "a", Y)
        weaver.do(MAIN, "drop", "a", 6)
        weaver.do(MAIN, "call", "a", X, "new")
        out = [("column", "a", Y), ("slot", "a", "y"), ("slot", "a", "x"), ("row", "a", 6)]
        left = [pair for pair in gone if pair[0] not in out] + [(("slot", "a", "new"), None)]
        self.of(weaver, MAIN, ("end", "a"), *left)
        alone = Weaver()
        alone.do(MAIN, "table", "a")
        self.of(alone, MAIN, ("end", "a"), (("table", "a"), None))

    def test_end_of_one_of_two_tables(self):
        weaver = began()
        weaver.do(MAIN, "table", "b")
        weaver.do(MAIN, "put", "b", 5, ())
        self.of(weaver, MAIN, ("end", "b"), (("table", "b"), None), (("row", "b", 5), None))

    def test_undo(self):
        weaver = began()
        put = ("a", 0, "main", 4)
        lot = weaver.lots[MAIN]
        self.tells((("a", 3, "side", 0), lot, ("strike", put)), made, weaver.web, lot, *SIDE, ("undo", *put))
        strike = weaver.do(SIDE, "undo", *put)
        self.lacks(Undone, put, made, weaver.web, weaver.lots[SIDE], *SIDE, ("undo", *put))
        self.lacks(Lacking, strike, made, weaver.web, weaver.lots[MAIN], *MAIN, ("undo", *strike))
        back = made(weaver.web, weaver.lots[SIDE], *SIDE, ("undo", *strike))
        self.assertEqual(back, (("a", 3, "side", 1), weaver.lots[SIDE], ("strike", strike)))
        weaver.do(SIDE, "undo", *strike)
        self.lacks(Undone, strike, made, weaver.web, weaver.lots[SIDE], *SIDE, ("undo", *strike))
        self.assertEqual(weaver.do(SIDE, "undo", *put)[3], 2)
        # The table may be gone: what is done is undone all the same.
        weaver.do(MAIN, "end", "a")
        self.assertEqual(made(weaver.web, weaver.lots[MAIN], *MAIN, ("undo", *put))[2], ("strike", put))

    def test_what_is_shown_by_it(self):
        weaver = began()
        self.assertEqual(rows_of(state_of(weaver, MAIN), "a"), (
            (5, (("x", 1), ("y", "w"), ("z", "none"))), (6, (("y", 7), ("z", "none")))))


class Numbers(Making):
    def test_the_next_one(self):
        weaver = began()
        for number, wanted in [(None, 6), (17, 17), (None, 18), (0, None), (7, 7), (None, 19), (10 ** 6, 10 ** 6)]:
            if wanted is None:
                self.refused(NoNumber, made, weaver.web, weaver.lots[MAIN], *MAIN, ("put", "a", 1, ()), number=number)
            else:
                self.assertEqual(weaver.do(MAIN, "put", "a", 1, (), number=number)[3], wanted)
        self.refused(NoNumber, made, weaver.web, weaver.lots[MAIN], *MAIN, ("put", "a", 1, ()))
        self.assertEqual(weaver.do(MAIN, "put", "a", 1, (), number=20)[3], 20)

    def test_of_that_table_hand_and_branch(self):
        web, lot = began().web, began().lots[MAIN]
        for table, hand, branch, wanted in [("a", 0, "main", 6), ("b", 0, "main", 0), ("a", 1, "main", 0),
                                            ("a", 0, "x", 0)]:
            asked = ("put", table, 1, ()) if table == "a" else ("table", table)
            self.assertEqual(self.told(made, web, lot, hand, branch, asked)[0], (table, hand, branch, wanted))
            for number in (0, 5, 10 ** 6):
                if wanted and number < 6:
                    self.refused(NoNumber, made, web, lot, hand, branch, asked, number=number)
                else:
                    self.assertEqual(made(web, lot, hand, branch, asked, number=number)[0][3], number)

    def test_the_web_counts_not_the_lot(self):
        web = began().web
        self.assertEqual(self.told(made, web, (), 0, "main", ("table", "a"))[0], ("a", 0, "main", 6))
        self.refused(NoNumber, made, web, (), 0, "main", ("table", "a"), number=5)

    def test_no_number(self):
        web, lot = began().web, began().lots[MAIN]
        for thing in [*WRONG_NUMBERS, *range(6), -1, 10 ** 6 + 1, True]:
            for asked in (("put", "a", 1, ()), ("table", "a"), ("end", "b"), ("undo", "a", 0, "main", 99)):
                if asked[1] == "b" and plain.whole(thing, 0, 10 ** 6):
                    continue
                self.refused(NoNumber, made, web, lot, 0, "main", asked, number=thing)
        full = ((("a", 0, "main", 10 ** 6), (), ("writes", (TABLE,))),)
        for asked in (("put", "a", 1, ()), ("table", "a"), ("undo", "a", 0, "main", 99)):
            self.refused(NoNumber, made, full, whole(full), 0, "main", asked)
            self.refused(NoNumber, made, full, whole(full), 0, "main", asked, number=10 ** 6)


class There(Case):
    def test_by_hand(self):
        for names, place, wanted in [
                ([], CELL, False), ([BASE], CELL, True), ([BASE, LEFT], ROW, True), ([BASE, GONE], CELL, False),
                ([BASE, GONE], ROW, False), ([BASE, LEFT, GONE], ROW, True), ([BASE], ELSE, False),
                ([BASE, LEFT, STRUCK, GONE], CELL, False), ([BASE], ("table", "a"), True),
                ([BASE], ("table", "b"), False)]:
            self.whether(wanted, is_there, STORY, lot_of(*names), place)
        self.whether(False, is_there, (), (), ("table", "a"))

    def test_zero_is_there(self):
        web = web_of((BASE, (), ("writes", ((CELL, 0),))))
        self.whether(True, is_there, web, whole(web), CELL)

    def test_as_plainly(self):
        chance = Chance(101)
        for _ in range(12):
            weaver = woven(chance, 8)
            for lot in weaver.lots.values():
                for place in plain.places(weaver.web, whole(weaver.web)):
                    self.whether(plain_asks.is_there(weaver.web, lot, place), is_there, weaver.web, lot, place)


class Refused(Case):
    def no(self, error, weaver, branch, *asked):
        self.refused(error, made, weaver.web, weaver.lots[branch], *branch, asked)

    def test_each(self):
        wrong = ((NoWeb, WRONG_WEBS), (NoLot, WRONG_LOTS), (NoHand, WRONG_HANDS), (NoName, WRONG_BRANCHES),
                 (NoDeed, WRONG_DEEDS))
        for more in ({}, {"number": 1}, {"number": -1}, {"number": "a"}):
            self.refuses_each(made, (SMALL, WHOLE, 0, "main", ("table", "c")), *wrong, **more)
        self.refuses_each(is_there, (SMALL, WHOLE, ROW), *wrong[:2], (NoPlace, WRONG_PLACES))

    def test_no_table(self):
        ended = began()
        ended.do(MAIN, "end", "a")
        for weaver in (Weaver(), ended):
            for asked in [("column", "a", "x", "any", None), ("call", "a", X, "x"), ("kind", "a", X, "any"),
                          ("else", "a", X, 1), ("put", "a", 5, ()), ("put", "a", 5, ((X, 1),)), ("blank", "a", 5, X),
                          ("drop", "a", 5), ("leave", "a", X), ("end", "a")]:
                self.no(NoTable, weaver, MAIN, *asked)

    def test_no_column_and_no_row(self):
        weaver = began()
        weaver.do(MAIN, "leave", "a", Y)
        weaver.do(MAIN, "drop", "a", 6)
        for ident in (NOWHERE, Y, (0, "main", 0), (0, "maim", 1)):
            for asked in [("call", "a", ident, "x"), ("call", "a", ident, "new"), ("kind", "a", ident, "any"),
                          ("else", "a", ident, None), ("put", "a", 5, ((ident, 1),)), ("blank", "a", 5, ident),
                          ("blank", "a", 6, ident), ("put", "a", 5, tuple(sorted([(X, 1), (ident, 1)]))),
                          ("leave", "a", ident)]:
                self.no(NoColumn, weaver, MAIN, *asked)
        for key in (6, 7, 0):
            self.no(NoRow, weaver, MAIN, "blank", "a", key, X)
            self.no(NoRow, weaver, MAIN, "drop", "a", key)

    def test_taken(self):
        weaver = began()
        for asked in [("table", "a"), ("column", "a", "x", "any", None), ("call", "a", X, "y"), ("call", "a", X, "z")]:
            self.no(Taken, weaver, MAIN, *asked)
        weaver.do(MAIN, "leave", "a", Y)
        self.assertTrue(made(weaver.web, weaver.lots[MAIN], *MAIN, ("call", "a", X, "y")))
        self.assertTrue(made(weaver.web, weaver.lots[MAIN], *MAIN, ("column", "a", "y", "any", None)))

    def test_taken_where_it_clashes(self):
        # The slot reads the own id, another one and None.
        weaver = began()
        weaver.fork(MAIN, (5, "third"))
        weaver.do(MAIN, "call", "a", X, "new")
        weaver.do(SIDE, "call", "a", Y, "new")
        lot = weaver.both(MAIN, SIDE)
        self.refused(Taken, made, weaver.web, lot, *MAIN, ("call", "a", X, "new"))
        self.refused(Taken, made, weaver.web, lot, *MAIN, ("column", "a", "new", "any", None))
        self.assertEqual(reading(weaver.web, lot, ("slot", "a", "x")), (None,))
        weaver.do((5, "third"), "call", "a", X, "w")
        lot = weaver.both(MAIN, (5, "third"))
        weaver.lots[(6, "both")] = lot
        weaver.do((6, "both"), "call", "a", X, "w")
        lot = weaver.both((6, "both"), MAIN)
        self.assertTrue(made(weaver.web, lot, *MAIN, ("call", "a", X, "new")))

    def test_lacking_and_undone(self):
        weaver = began()
        lot = weaver.lots[MAIN]
        for name in (("a", 0, "main", 6), ("a", 1, "main", 0), ("b", 0, "main", 0)):
            self.lacks(Lacking, name, made, weaver.web, lot, *MAIN, ("undo", *name))
        # Of the web, but not of the lot.
        self.lacks(Lacking, ("a", 0, "main", 5), made, weaver.web, lot[:5], *MAIN, ("undo", "a", 0, "main", 5))
        strike = weaver.do(MAIN, "undo", "a", 0, "main", 5)
        self.lacks(Undone, ("a", 0, "main", 5), made, weaver.web, weaver.lots[MAIN], *MAIN, ("undo", "a", 0, "main", 5))
        weaver.do(MAIN, "undo", *strike)
        self.lacks(Undone, strike, made, weaver.web, weaver.lots[MAIN], *MAIN, ("undo", *strike))

    def test_sixty_deeds(self):
        weaver = began()
        while len(weaver.lots[MAIN]) < 59:
            weaver.do(MAIN, "put", "a", len(weaver.web), ())
        weaver.do(MAIN, "table", "b")
        weaver.fork(MAIN, (4, "less"))
        name = weaver.do(MAIN, "undo", "a", 0, "main", 5)
        self.assertEqual(len([each for each in weaver.lots[MAIN] if each[0] == "a"]), 60)
        for asked in [("put", "a", 1, ()), ("undo", *name), ("end", "a"), ("call", "a", X, "new"),
                      ("column", "a", "v", "any", 1)]:
            self.no(TooWide, weaver, MAIN, *asked)
            self.assertTrue(made(weaver.web, weaver.lots[(4, "less")], *MAIN, ("put", "a", 1, ())))
        # Last of all refusals:
        for error, asked in [(Taken, ("table", "a")), (Taken, ("call", "a", X, "y")),
                             (NoColumn, ("leave", "a", NOWHERE)),
                             (NoRow, ("drop", "a", 999)), (Lacking, ("undo", "a", 7, "main", 0)),
                             (Undone, ("undo", "a", 0, "main", 5))]:
            self.no(error, weaver, MAIN, *asked)
        self.assertTrue(made(weaver.web, weaver.lots[MAIN], *MAIN, ("put", "b", 1, ())))

    def test_sixty_strange_deeds(self):
        web = stacked(beside(60))
        self.refused(TooWide, made, web, whole(web), 0, "x", ("put", "a", 1, ()))
        self.assertTrue(made(web, whole(web)[1:], 0, "x", ("put", "a", 1, ())))


class Woven(Case):
    def test_as_plainly(self):
        chance = Chance(102)
        for _ in range(60):
            weaver = woven(chance, chance.below(12))
            for branch, lot in weaver.lots.items():
                for _ in range(6):
                    asked, number = any_deed(chance, weaver.web), chance.one([None] * 9 + [0, 4, 10 ** 6])
                    self.alike(weaver.web, lot, branch, asked, number)

    def alike(self, web, lot, branch, asked, number):
        try:
            wanted = plain_asks.made(web, lot, *branch, asked, number)
        except plain_asks.Refused as refused:
            self.refused(ERRORS[str(refused)], made, web, lot, *branch, asked, number=number)
        else:
            self.tells(wanted, made, web, lot, *branch, asked, number=number)

    def test_done_and_undone_and_back(self):
        chance = Chance(103)
        many = 0
        while many < 60:
            weaver = woven(chance, chance.below(10))
            branch, asked = chance.one(list(weaver.lots)), any_deed(chance, weaver.web)
            web, lot = weaver.web, weaver.lots[branch]
            try:
                deed = made(web, lot, *branch, asked)
            except tuple(ERRORS.values()):
                continue
            many += 1
            self.assertEqual(weaver.do(branch, *asked), deed[0])
            done = weaver.web, weaver.lots[branch]
            self.assertTrue(is_web(done[0]) and is_lot(*done))
            if deed[2][0] == "writes":
                for place, what in deed[2][1]:
                    self.assertEqual(reading(*done, place), (what,))
                self.alike_but((web, lot), done, [place for place, _ in deed[2][1]])
            strike = weaver.do(branch, "undo", *deed[0])
            self.alike_but((web, lot), (weaver.web, weaver.lots[branch]), [])
            weaver.do(branch, "undo", *strike)
            self.alike_but(done, (weaver.web, weaver.lots[branch]), [])

    def alike_but(self, one, other, places):
        for place in plain.places(other[0], whole(other[0])):
            if place not in places:
                self.assertEqual(reading(*one, place), reading(*other, place))

    def test_two_branches(self):
        chance = Chance(104)
        for _ in range(60):
            weaver = woven(chance, chance.below(10))
            weaver.lots = {(4, "one"): weaver.lots[MAIN], (5, "other"): weaver.lots[MAIN]}
            web, lot = weaver.web, weaver.lots[(4, "one")]
            whats = []
            while len(whats) < 2:
                branch = [(4, "one"), (5, "other")][len(whats)]
                asked = any_deed(chance, web, "a")
                try:
                    if asked[0] != "undo":
                        name = weaver.do(branch, *asked)
                        whats.append({each: what for each, _, what in weaver.web}[name][1])
                except tuple(ERRORS.values()):
                    continue
            one, other = dict(whats[0]), dict(whats[1])
            both = weaver.both((4, "one"), (5, "other"))
            for place in plain.places(weaver.web, whole(weaver.web)):
                wanted = {each[place] for each in (one, other) if place in each}
                wanted = tuple(sorted(wanted, key=repr)) if wanted else reading(web, lot, place)
                self.assertEqual(reading(weaver.web, both, place), wanted)

    def clash(self, one, other, *places):
        """Done on main and on the side, neither knowing the other: just these places clash."""
        weaver = began()
        weaver.do(MAIN, *one)
        weaver.do(SIDE, *other)
        self.assertEqual(clashes(weaver.web, weaver.both(MAIN, SIDE)), places)

    def test_who_writes_and_who_takes_out(self):
        put = ("put", "a", 5, ((X, 8),))
        row, column, table = ("row", "a", 5), ("column", "a", X), ("table", "a")
        cell, held = ("cell", "a", 5, X), ("cell", "a", 5, Y)
        self.clash(put, ("drop", "a", 5), cell, row)
        self.clash(put, ("leave", "a", X), column)
        self.clash(put, ("end", "a"), cell, column, row, table)
        self.clash(("blank", "a", 5, Y), ("drop", "a", 5), row)
        self.clash(("blank", "a", 5, X), ("leave", "a", X), column)
        self.clash(("kind", "a", X, "any"), ("leave", "a", X), column)
        self.clash(("put", "a", 9, ()), ("end", "a"), table)
        self.clash(put, ("call", "a", X, "new"))
        self.clash(put, ("kind", "a", X, "any"))
        self.clash(put, ("else", "a", X, 4))
        self.clash(put, ("put", "a", 5, ((Y, 8),)))
        self.clash(put, ("put", "a", 5, ((X, 9),)), cell)
        self.clash(put, put)
        self.clash(("put", "a", 9, ((X, 8),)), ("drop", "a", 5))
        self.clash(("blank", "a", 5, Y), ("put", "a", 5, ((Y, 1),)), held)
        self.clash(("call", "a", X, "one"), ("call", "a", X, "two"), ("name", "a", X))
        self.clash(("call", "a", X, "one"), ("call", "a", Y, "one"), ("slot", "a", "one"))
        self.clash(("column", "a", "new", "any", 1), ("column", "a", "new", "any", 1), ("slot", "a", "new"))
        self.clash(("drop", "a", 5), ("drop", "a", 5))


if __name__ == "__main__":
    unittest.main()
