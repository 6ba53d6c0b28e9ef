"""Stage 4, promises 11 to 13: states of just these rows, whence a row comes, who is behind it."""

import unittest

from forkrolls.asks.answers import answer
from forkrolls.asks.whence import behind, only_rows, shows_whence, whence
from forkrolls.errors import NoAnswer, NoKey, NoLot, NoName, NoQuestion, NoRow, NoState, NoWeb, TooWide
from tests import plain, plain_asks
from tests.grids import (
    AGAIN, ANN, BOB, EMMA, LIBRARY, LOANS, NAMELESS, ODD, ROLL, cases, grid, made_grid, row, state_of, within)
from tests.knots import (
    AFAR, ALIKE, BACK, BASE, CELL, GONE, LEFT, MERGED, RIGHT, ROW, STORY, STRUCK, apart, lot_of, whole)
from tests.looms import SMALL, WHOLE, WRONG_LOTS, WRONG_WEBS, in_a_row, numbered, stacked
from tests.test_questions import WRONG_QUESTIONS
from tests.test_states import WRONG_STATES, made_state
from tests.things import ANYTHING, OTHER, Case, Chance, bent
from tests.weaver import woven

A, B = ("roll", "a"), ("roll", "b")
SIMPLE = ("where", "same", "keep", "call", "join", "either")
NOT_SIMPLE = [("count", ROLL, (), "n"), ("sum", ROLL, (), "many", "n"), ("but", ROLL, LOANS),
              ("keep", ("but", ROLL, LOANS), ("title",)), ("join", ROLL, ("count", ROLL, ("title",), "n"))]
WRONG_ROWS = [thing for thing in ANYTHING if not plain_asks.row(thing)] + [
    list(EMMA), EMMA[::-1], EMMA + EMMA[-1:], (("key", True),), (("x", None),), (("x", 1), ("x", 2)), [("x", 1)]]
WRONG_KEYS = [thing for thing in ANYTHING if not plain.key(thing)]
WRONG_NAMES = [thing for thing in ANYTHING if not plain.name(thing)]
BOTH = ("books", 1), ("lent", 1)


class OnlyRows(Case):
    def test_by_hand(self):
        kept = only_rows(LIBRARY, BOTH)
        self.assertEqual([place for place, _ in kept if place[0] == "row"], [("row", *each) for each in BOTH])
        self.assertEqual([pair for pair in LIBRARY if pair[0][0] != "row"],
                         [pair for pair in kept if pair[0][0] != "row"])
        self.tells((), only_rows, (), BOTH)
        self.tells(tuple(pair for pair in LIBRARY if pair[0][0] != "row"), only_rows, LIBRARY, ())
        self.tells(LIBRARY, only_rows, LIBRARY, tuple(place[1:] for place, _ in LIBRARY if place[0] == "row"))
        self.tells(kept, only_rows, LIBRARY, (("books", 0), *BOTH, ("nowhere", 1)))

    def test_as_plainly(self):
        chance = Chance(131)
        for _ in range(40):
            state = made_state(chance, 25)
            rows = tuple((table, key) for table in ("a", "b", "c") for key in (0, 1, 2, 10) if chance.below(2))
            self.tells(plain_asks.only_rows(state, rows), only_rows, state, rows)
            self.tells(only_rows(state, rows), only_rows, only_rows(state, rows), rows)

    def test_refused(self):
        wrong = [thing for thing in ANYTHING if not plain_asks.table_keys(thing)] + [
            list(BOTH), BOTH[::-1], BOTH + BOTH[-1:], BOTH[0], (list(BOTH[0]),), (("books", True),), (("key", 1),),
            ((1, "books"),),
            (("books", 1, 1),), (("books",),), (("books", -1),), (("books", 10 ** 9 + 1),), (("books", 1), None),
            dict(BOTH)]
        self.refuses_each(only_rows, (LIBRARY, BOTH), (NoState, WRONG_STATES), (NoRow, wrong))


class Whence(Case):
    def comes(self, wanted, question, told, state=LIBRARY):
        self.tells(wanted, whence, state, question, told)
        self.assertTrue(plain_asks.whence(state, question, told, wanted))
        self.shown(True, question, told, wanted, state)

    def shown(self, wanted, question, told, thing, state=LIBRARY):
        self.whether(wanted, shows_whence, state, question, told, thing)

    def test_by_hand(self):
        self.comes((("books", 1),), ROLL, EMMA)
        self.comes((("books", 1),), ("where", ROLL, "title", "is", "emma"), EMMA)
        self.comes((("books", 11),), ("same", ROLL, "title", "year"), ODD)
        self.comes((("books", 2),), ("keep", ROLL, ("title",)), row(title="persuas"))
        self.comes((("lent", 2),), ("call", ("keep", LOANS, ("who",)), "who", "name"), row(name="bob"))
        joined = ("join", ("keep", ROLL, ("title", "year")), ("keep", LOANS, ("title", "who")))
        self.comes((("books", 5), ("lent", 2)), joined, row(title="emma", year=1900, who="bob"))
        self.comes((("lent", 1),), ("either", ROLL, LOANS), ANN)
        self.comes((("books", 1),), ("join", ROLL, ROLL), EMMA)

    def test_told_by_several(self):
        question = ("keep", ROLL, ("title",))
        self.assertIn(self.told(whence, LIBRARY, question, row(title="emma")), [(("books", 1),), (("books", 5),)])
        for rows, wanted in [((("books", 1),), True), ((("books", 5),), True), ((("books", 1), ("books", 5)), False),
                             ((), False), ((("books", 2),), False), ((("books", 1), ("lent", 1)), False),
                             ((("books", 99),), False), ((("lent", 1),), False)]:
            self.shown(wanted, question, row(title="emma"), rows)
        pair = ("join", ("keep", ROLL, ("title",)), ("keep", LOANS, ("title",)))
        for book in (1, 5):
            for loan in (1, 2):
                self.shown(True, pair, row(title="emma"), (("books", book), ("lent", loan)))
            self.shown(False, pair, row(title="emma"), (("books", book),))
            self.shown(False, pair, row(title="emma"), (("books", book), ("lent", 1), ("lent", 2)))

    def test_a_row_that_is_needed_twice(self):
        # The empty row of the nameless book goes with any: by one row or by two.
        question = ("join", ("keep", ROLL, ("title",)), ("keep", ROLL, ("year",)))
        for rows, wanted in [((("books", 1),), True), ((("books", 1), ("books", 10)), False),
                             ((("books", 5), ("books", 10)), True),
                             ((("books", 5),), False), ((("books", 10),), False)]:
            self.shown(wanted, question, row(title="emma", year=1815), rows)
        found = self.told(whence, LIBRARY, question, row(title="emma", year=1815))
        self.assertTrue(plain_asks.whence(LIBRARY, question, row(title="emma", year=1815), found))

    def test_less_by_another_path(self):
        # The first path that is found has two sources, of which one alone tells the row by the other path.
        joined = ("join", ("keep", ROLL, ()), ("keep", LOANS, ("who",)))
        self.comes((("lent", 2),), ("either", joined, ("keep", LOANS, ("who",))), row(who="bob"))
        self.comes((("lent", 2),), ("either", ("keep", LOANS, ("who",)), joined), row(who="bob"))
        self.shown(False, ("either", joined, ("keep", LOANS, ("who",))), row(who="bob"), (("books", 1), ("lent", 2)))
        self.shown(True, joined, row(who="bob"), (("books", 1), ("lent", 2)))

    def test_as_plainly(self):
        chance = Chance(132)
        many = 0
        for state, question in cases(133, 400, words=SIMPLE):
            for told in answer(state, question)[:3]:
                many += 1
                found = self.told(whence, state, question, told)
                self.assertTrue(plain_asks.whence(state, question, told, found))
                self.shown(True, question, told, found, state)
                every = [place[1:] for place, _ in state if place[0] == "row"] + [("c", 0)]
                for rows in [tuple(sorted(chance.some(every, 4))) for _ in range(4)] + [
                        found[:at] + found[at + 1:] for at in range(len(found))] + [(each,) for each in every[:4]]:
                    self.shown(plain_asks.whence(state, question, told, rows), question, told, rows, state)
        self.assertGreater(many, 200)

    def test_what_is_told_bent(self):
        question = ("join", ("keep", ROLL, ("title", "year")), ("keep", LOANS, ("title", "who")))
        told = row(title="emma", year=1900, who="bob")
        for thing in [*bent(whence(LIBRARY, question, told)), *ANYTHING]:
            self.shown(plain_asks.whence(LIBRARY, question, told, thing), question, told, thing)
        for thing in [(("books", 5), ("lent", True)), [("books", 5), ("lent", 2)], (["books", 5], ("lent", 2)),
                      (("lent", 2), ("books", 5)), (("books", 5), ("lent", 2), ("lent", 2)),
                      (("books", 5), ("lent", 1)),
                      (("books", 5), ("lent", 2), ("lent", 3)), (("books", 5), ("lent", 2), ("none", 0)),
                      (("books", 5),)]:
            self.shown(False, question, told, thing)

    def test_truths(self):
        state = state_of(grid("a", ("x",), [(0, (0,)), (1, (1,))]))
        for key, truth in ((0, False), (1, True)):
            self.shown(True, A, row(key=key, x=key), (("a", key),), state)
            self.shown(False, A, row(key=key, x=key), (("a", truth),), state)

    def test_a_row_of_a_table_that_is_not_there(self):
        state = tuple(pair for pair in LIBRARY if pair[0] != ("table", "lent"))
        self.shown(False, ("either", ROLL, LOANS), EMMA, (("lent", 1),), state)
        self.refused(NoAnswer, whence, state, ("either", ROLL, LOANS), ANN)

    def test_broken_columns(self):
        chance = Chance(134)
        for _ in range(60):
            state = tuple(sorted({**dict(made_grid(chance, "a")), **dict(made_state(chance, 6))}.items()))
            for told in answer(state, ("keep", A, ("x", "y")))[:2]:
                found = self.told(whence, state, ("keep", A, ("x", "y")), told)
                self.assertTrue(plain_asks.whence(state, ("keep", A, ("x", "y")), told, found))

    def test_great_ones(self):
        state = state_of(grid("a", ("x", "y"), [(key, (key % 5, "y")) for key in range(400)]),
                         grid("b", ("x", "z"), [(key, (key % 7, "z")) for key in range(400)]))
        question = ("keep", ("join", ("keep", A, ("x", "y")), ("keep", B, ("x", "z"))), ("y", "z"))
        found = self.told(whence, state, question, row(y="y", z="z"))
        self.assertEqual(len(found), 2)
        self.shown(True, question, row(y="y", z="z"), found, state)
        every = tuple((table, key) for table in ("a", "b") for key in range(400))
        for rows in (every, every[:400], every[1:], found + (("c", 0),)):
            self.shown(False, question, row(y="y", z="z"), rows, state)
        deep = A
        for _ in range(4):
            deep = ("join", deep, deep)
        self.comes((("a", 7),), deep, row(key=7, x=2, y="y"), state)

    def test_another_state_asked_between(self):
        other = state_of(grid("books", ("title",), [(9, ("emma",))]))
        for _ in range(2):
            self.comes((("books", 9),), ("keep", ROLL, ("title",)), row(title="emma"), other)
            self.comes((("books", 2),), ("keep", ROLL, ("title",)), row(title="persuas"))


class WhenceRefused(Case):
    def test_each(self):
        wrong = (NoState, WRONG_STATES), (NoQuestion, NOT_SIMPLE + WRONG_QUESTIONS), (NoRow, WRONG_ROWS)
        self.refuses_each(whence, (LIBRARY, ROLL, EMMA), *wrong)
        self.refuses_each(shows_whence, (LIBRARY, ROLL, EMMA, (("books", 1),)), *wrong)

    def no_answer(self, state, question, told, error=NoAnswer):
        self.refused(error, whence, state, question, told)
        for thing in ((("books", 1),), None, (), [{}]):
            self.refused(error, shows_whence, state, question, told, thing)

    def test_no_answer(self):
        for told in [(), row(key=1), EMMA[:-1], row(**dict(EMMA), z=1), row(key=3), ANN, row(key=10 ** 30), BOB,
                     AGAIN[1:]]:
            self.no_answer(LIBRARY, ROLL, told)
            self.no_answer((), ROLL, told)
        self.no_answer(LIBRARY, ("where", ROLL, "title", "is", "emma"), NAMELESS)
        self.no_answer(LIBRARY, ("keep", ROLL, ("title",)), EMMA)

    def test_too_wide(self):
        state = state_of(grid("a", ("x",), [(key, (1,)) for key in range(401)]))
        for told in (row(key=0, x=1), row(x=1), ()):
            self.no_answer(state, A, told, TooWide)
            self.no_answer(state, ("keep", A, ("x",)), told, TooWide)
            self.no_answer(state, ("where", A, "x", "is", "none"), told, TooWide)
        self.assertEqual(whence(only_rows(state, tuple(("a", key) for key in range(400))), ("keep", A, ()), ()),
                         (("a", 0),))

    def test_questions_that_are_not_simple(self):
        for question in NOT_SIMPLE:
            for told in (answer(LIBRARY, question) or ((),))[:1]:
                self.no_answer(LIBRARY, question, told, NoQuestion)
        self.comes_of_eight()

    def comes_of_eight(self):
        self.tells((("books", 5),), whence, LIBRARY, within(8, ROLL), row(key=5))
        self.no_answer(LIBRARY, within(9, ROLL), row(key=5), NoQuestion)


class Behind(Case):
    def test_by_hand(self):
        for names, wanted in [
                ([], ()), ([BASE], ((CELL, (BASE,)), (ROW, (BASE,)))),
                ([BASE, LEFT], ((CELL, (LEFT,)), (ROW, (LEFT,)))),
                ([BASE, LEFT, GONE], ((CELL, (GONE, LEFT)), (ROW, (GONE, LEFT)))),
                ([BASE, LEFT, STRUCK], ((CELL, (BASE,)), (ROW, (BASE,)))),
                ([BASE, ALIKE], ((CELL, (ALIKE,)), (ROW, (BASE,)))),
                ([BASE, LEFT, RIGHT, AFAR, STRUCK, MERGED], ((CELL, (MERGED,)), (ROW, (BASE,)))),
                ([BASE, LEFT, STRUCK, BACK, ALIKE], ((CELL, (LEFT, ALIKE)), (ROW, (LEFT,))))]:
            self.tells(wanted, behind, STORY, lot_of(*names), "a", 5)
        self.tells(((("cell", "b", 0, OTHER), (AFAR,)),), behind, STORY, whole(STORY), "b", 0)
        for table, key in (("a", 4), ("b", 5), ("c", 0), ("a", 10 ** 9)):
            self.tells((), behind, STORY, whole(STORY), table, key)
        self.tells((), behind, (), (), "a", 0)

    def test_struck_alone(self):
        lot = tuple(sorted([LEFT, STRUCK]))
        web = ((LEFT, (), ("writes", ((ROW, True),))), (STRUCK, (LEFT,), ("strike", LEFT)))
        self.tells((), behind, web, lot, "a", 5)

    def test_as_plainly(self):
        chance = Chance(135)
        for _ in range(20):
            weaver = woven(chance, 10)
            for lot in (*weaver.lots.values(), whole(weaver.web)):
                for table in ("a", "b"):
                    for key in (0, 2, 10 ** 9, 7):
                        wanted = tuple((place, plain.lasts(weaver.web, lot,
                                                           place)) for place in plain.places(weaver.web, lot)
                                       if place[0] in ("row", "cell") and place[1:3] == (table, key))
                        self.tells(wanted, behind, weaver.web, lot, table, key)

    def test_great_lots(self):
        web = stacked(in_a_row(120))
        self.tells(((("row", "a", 7), (numbered(7),)),), behind, web, whole(web), "a", 7)
        web = apart(200)
        self.assertEqual(behind(web, whole(web), "a", 0), ((("cell", "a", 0, (0, "main", 3)), whole(web)),))

    def test_refused(self):
        self.refuses_each(behind, (SMALL, WHOLE, "a", 5), (NoWeb, WRONG_WEBS), (NoLot, WRONG_LOTS),
                          (NoName, WRONG_NAMES),
                          (NoKey, WRONG_KEYS))


if __name__ == "__main__":
    unittest.main()
