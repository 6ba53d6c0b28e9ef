"""Stage 5, promises 1, 2, 3, 6 and 10: sure, perhaps, order_with, order_without."""

import unittest

from forkrolls.asks.sure import order_with, order_without, perhaps, sure
from forkrolls.errors import NoLot, NoNumber, NoQuestion, NoRow, NoWeb, TooWide
from forkrolls.worlds.ways import ways_of
from tests import plain, plain_asks
from tests.grids import by_text
from tests.knots import apart, one_of, whole, writers_of, written
from tests.looms import SMALL, WHOLE, WRONG_LOTS, WRONG_NUMBERS, WRONG_WEBS, web_of
from tests.shops import (
    A, LEFT, MAIN, QUESTIONS, RIGHT, THIRD, X, few_orders, lots_of, parted, put, row, row_of_rows, shop, wovens)
from tests.test_questions import WRONG_QUESTIONS
from tests.test_whence import WRONG_ROWS
from tests.things import Case, Chance
from tests.weaver import Weaver

SOME = row(key=1, x=1)
ONE, TWO, THREE, FOUR = row(key=1, x=1, y="one"), row(key=2, x=2), row(key=3, x=1), row(key=4, x=4)
OTHER_WEB = web_of((("a", 0, "main", 0), (), ("writes", ((("table", "a"), True),))))


def wanted_of(states, question):
    """(sure, perhaps) by asking in turn each of the states in which plain stores end by all orders."""
    told = [plain_asks.answer(state, question) for state in states]
    every = {each for rows in told for each in rows}
    certain = {each for each in every if all(each in rows for rows in told)}
    return by_text(*certain), by_text(*(every - certain))


class SureCase(Case):
    def just(self, certain, maybe, web, lot, question, **more):
        self.tells(by_text(*certain), sure, web, lot, question, **more)
        self.tells(by_text(*maybe), perhaps, web, lot, question, **more)
        for each in certain:
            self.with_it(web, lot, question, each, **more)
            self.tells(None, order_without, web, lot, question, each, **more)
        for each in maybe:
            self.with_it(web, lot, question, each, **more)
            self.without_it(web, lot, question, each, **more)
        for each in {(), row(key=9), SOME, row(n=0), row(key=10 ** 40), row(x="none")} - {*certain, *maybe}:
            self.tells(None, order_with, web, lot, question, each, **more)
            self.without_it(web, lot, question, each, **more)

    def with_it(self, web, lot, question, each, **more):
        order = self.told(order_with, web, lot, question, each, **more)
        self.assertTrue(plain.order(web, lot, order))
        self.assertIn(each, plain_asks.answer(plain.state_by(web, order), question))

    def without_it(self, web, lot, question, each, **more):
        order = self.told(order_without, web, lot, question, each, **more)
        self.assertTrue(plain.order(web, lot, order))
        self.assertNotIn(each, plain_asks.answer(plain.state_by(web, order), question))

    def too_wide(self, web, lot, question, each=(), **more):
        self.refused(TooWide, sure, web, lot, question, **more)
        self.refused(TooWide, perhaps, web, lot, question, **more)
        self.refused(TooWide, order_with, web, lot, question, each, **more)
        self.refused(TooWide, order_without, web, lot, question, each, **more)


class Sure(SureCase):
    def test_one_world(self):
        weaver = shop()
        lot = weaver.lots[MAIN]
        self.just([ONE, TWO, THREE], [], weaver.web, lot, A)
        self.just([row(x=1), row(x=2)], [], weaver.web, lot, ("keep", A, ("x",)))
        self.just([row(n=3)], [], weaver.web, lot, ("count", A, (), "n"))
        self.just([], [], weaver.web, lot, ("where", A, "x", "above", 2))
        self.just([], [], weaver.web, (), A)
        self.just([], [], (), (), A)
        self.just([], [], (), (), ("count", A, (), "n"))
        self.just([()], [], weaver.web, lot, ("keep", A, ()))

    def test_two_branches(self):
        weaver = parted()
        web, lot = weaver.web, weaver.both(LEFT, RIGHT)
        maybe = [row(key=1, x=5, y="one"), row(key=1, x="five", y="one")]
        self.just([THREE, FOUR], maybe, web, lot, A)
        self.just([row(key=1), row(key=3), row(key=4)], [], web, lot, ("keep", A, ("key",)))
        self.just([row(n=3)], [], web, lot, ("count", A, (), "n"))
        self.just([], [row(s=10), row(s=5)], web, lot, ("sum", A, (), "x", "s"))
        self.just([row(x=1), row(x=4)], [row(x=5), row(x="five")], web, lot, ("keep", A, ("x",)))
        self.just([], maybe, web, lot, ("where", A, "y", "is", "one"))

    def test_three_branches(self):
        weaver = parted()
        web, lot = weaver.web, weaver.both(LEFT, RIGHT, THIRD)
        # LEFT and THIRD write alike: two ways of three lead to 5; the second row is there or not, and where it is,
        # LEFT has taken its cell: so its x is there or not, each for itself.
        first = [row(key=1, x=5, y="one"), row(key=1, x="five", y="one")]
        self.just([THREE, FOUR], [*first, row(key=2, y="two")], web, lot, A)
        self.just([], [row(key=2, y="two")], web, lot, ("where", A, "y", "is", "two"))
        self.just([], [row(n=3), row(n=4)], web, lot, ("count", A, (), "n"))

    def test_strikes(self):
        weaver = parted()
        struck = weaver.do(LEFT, "undo", *weaver.lots[LEFT][-1])
        lot = weaver.both(LEFT, RIGHT)
        self.assertEqual(struck[:3], ("a", 1, "left"))
        again = parted()
        first = [name for name in again.lots[LEFT] if name[1] == 1][0]
        undone = again.do(LEFT, "undo", *first)
        self.just([THREE, FOUR, row(key=1, x="five", y="one")], [], again.web, again.both(LEFT, RIGHT), A)
        again.do(LEFT, "undo", *undone)
        self.just([THREE, FOUR], [row(key=1, x=5, y="one"), row(key=1, x="five", y="one")], again.web,
                  again.both(LEFT, RIGHT), A)
        self.assertEqual([wanted_of(plain.ends(weaver.web, lot), each) for each in QUESTIONS],
                         [(sure(weaver.web, lot, each), perhaps(weaver.web, lot, each)) for each in QUESTIONS])

    def test_merged(self):
        weaver = parted()
        weaver.merge(LEFT, RIGHT)
        weaver.do(LEFT, *put(1, x=7))
        self.just([THREE, FOUR, row(key=1, x=7, y="one")], [], weaver.web, weaver.lots[LEFT], A)
        weaver.do(RIGHT, *put(1, x=8))
        self.just([THREE, FOUR], [row(key=1, x=7, y="one"), row(key=1, x=8, y="one")], weaver.web,
                  weaver.both(LEFT, RIGHT), A)

    def test_told_in_all_worlds_but_one(self):
        weaver = shop()
        branches = [(hand, "b") for hand in range(1, 7)]
        for branch in branches:
            weaver.fork(MAIN, branch)
            weaver.do(branch, *put(3, x=6 if branch[0] == 4 else 1))
        lot = weaver.both(*branches)
        self.just([ONE, TWO], [THREE, row(key=3, x=6)], weaver.web, lot, A)
        self.just([row(x=1), row(x=2)], [row(x=6)], weaver.web, lot, ("keep", A, ("x",)))
        self.just([], [TWO], weaver.web, lot,
                  ("but", ("where", A, "key", "is", 2), ("join", A, ("keep", ("where", A, "x", "is", 6), ()))))

    def test_as_plainly(self):
        asked = 0
        for weaver in wovens(151, 12, 6):
            for lot in lots_of(weaver):
                if few_orders(weaver.web, lot, 200):
                    states = plain.ends(weaver.web, lot)
                    for question in QUESTIONS[asked % 4::4]:
                        self.just(*wanted_of(states, question), weaver.web, lot, question, most=10 ** 4)
                    asked += 1
        self.assertGreater(asked, 40)

    def test_many_rows_of_one_state(self):
        web = row_of_rows(30).web
        rows = [row(key=key, x=key) for key in range(30)]
        self.just(rows, [], web, whole(web), A)

    def test_by_text(self):
        weaver = Weaver()
        weaver.do(MAIN, "table", "a")
        weaver.do(MAIN, "column", "a", "x", "any", None)
        for key in (1, 2, 9, 10, 11, 100):
            weaver.do(MAIN, "put", "a", key, ((X, key),))
        weaver.fork(MAIN, LEFT)
        weaver.do(LEFT, "put", "a", 9, ((X, 10),))
        weaver.do(MAIN, "put", "a", 9, ((X, 9),))
        lot = weaver.both(MAIN, LEFT)
        keep = ("keep", A, ("x",))
        self.tells(tuple(row(x=part) for part in (1, 10, 100, 11, 2)), sure, weaver.web, lot, keep)
        self.tells((row(x=9),), perhaps, weaver.web, lot, keep)
        self.tells((row(key=9, x=10), row(key=9, x=9)), perhaps, weaver.web, lot, A)

    def test_another_web_asked_between(self):
        weaver = parted()
        lot = weaver.both(LEFT, RIGHT)
        for _ in range(2):
            self.tells(by_text(THREE, FOUR), sure, weaver.web, lot, A)
            self.tells((), sure, OTHER_WEB, whole(OTHER_WEB), A)
            self.tells((), perhaps, weaver.web, weaver.lots[LEFT], A)


def cells_at(key, *values):
    """Deeds beside one another that write one cell of column x."""
    return [((X_TABLE, 2, "x", number), (), written((("cell", "a", key, X), value)))
            for number, value in values]


X_TABLE = "a"
# What table a needs to show a column x, done by deeds that know nothing.
GROUND = (("a", 0, "main", 0), (), written(
    (("table", "a"), True), (("column", "a", X), True), (("name", "a", X), "x"), (("slot", "a", "x"), X)))


def rows_done(keys, x=None):
    return written(*[(("row", "a", key), True) for key in keys],
                   *([] if x is None else [(("cell", "a", key, X), x) for key in keys]))


class Width(SureCase):
    def test_ways(self):
        for web, many in [(apart(5, 5, 4, 2), 200), (apart(2, 2), 4), (apart(3), 3),
                          (writers_of(*([0, 1] for _ in range(50))), 2)]:
            lot = whole(web)
            self.assertEqual(len(ways_of(web, lot, most=10 ** 4)), many)
            for question in (A, ("roll", "nowhere")):
                self.just([], [], web, lot, question, most=many)
                self.too_wide(web, lot, question, most=many - 1)

    def test_more_ways_than_most(self):
        web = apart(6, 6, 6)
        self.too_wide(web, whole(web), A)
        self.just([], [], web, whole(web), A, most=216)
        self.too_wide(web, whole(web), A, most=215)
        for wide in (apart(*[2] * 150), apart(*[6] * 8)):
            self.too_wide(wide, whole(wide), A)
        self.refused(TooWide, sure, wide, whole(wide), A, most=10 ** 4)

    def test_ways_of_other_tables_count(self):
        weaver = shop()
        weaver.do(MAIN, "table", "b")
        weaver.do(MAIN, "column", "b", "x", "any", None)
        for hand in range(1, 5):
            weaver.fork(MAIN, (hand, "c"))
            weaver.do((hand, "c"), "put", "b", 1, (((0, "main", 1), hand),))
        web, lot = weaver.web, weaver.both(*[(hand, "c") for hand in range(1, 5)])
        self.just([ONE, TWO, THREE], [], web, lot, A, most=4)
        self.too_wide(web, lot, A, most=3)
        self.too_wide(web, lot, ("roll", "nowhere"), most=3)

    def test_too_wide_in_one_world_alone(self):
        # 401 rows where the one comes last, 400 where the other does.
        start = (("a", 1, "x", 0), (), rows_done(range(400)))
        more, less = ("a", 1, "y", 0), ("a", 1, "z", 0)
        deeds = [GROUND, start, (more, (), rows_done([400])), (less, (), written((("row", "a", 400), None)))]
        web = web_of(*deeds)
        lot = whole(web)
        self.assertEqual(len(ways_of(web, lot)), 2)
        for each in (row(key=0), row(key=400), ()):
            self.too_wide(web, lot, A, each)
            self.too_wide(web, lot, ("keep", A, ()), each)
            self.too_wide(web, lot, ("where", A, "key", "is", 7), each)
            self.too_wide(web, lot, ("count", A, (), "n"), each)
        one = tuple(name for name in lot if name != more)
        self.tells(by_text(*[row(key=key) for key in range(400)]), sure, web, one, A)
        self.tells((), perhaps, web, one, A)
        self.with_it(web, one, A, row(key=399))
        self.too_wide(web, tuple(name for name in lot if name != less), A)
        self.just([], [], web, lot, ("roll", "b"))

    def test_too_wide_in_whichever_world(self):
        # The way that is told first is too wide here, the last there.
        start = (("a", 1, "x", 0), (), rows_done(range(400)))
        for first, last in ((True, None), (None, True)):
            web = web_of(GROUND, start, (("a", 1, "y", 0), (), written((("row", "a", 400), first))),
                         (("a", 1, "z", 0), (), written((("row", "a", 400), last))))
            self.too_wide(web, whole(web), A, row(key=0))
            self.too_wide(web, whole(web), ("where", A, "key", "is", 7), row(key=7))

    def test_many_ways_few_worlds(self):
        web = web_of(GROUND, (("a", 1, "x", 0), (), rows_done([5])), *cells_at(
            5, *[(number, 7 if number else 8) for number in range(210)]))
        self.too_wide(web, whole(web), A)
        self.just([], [row(key=5, x=7), row(key=5, x=8)], web, whole(web), A, most=210)
        self.too_wide(web, whole(web), A, most=209)

    def test_great_webs(self):
        chance = Chance(152)
        web = web_of(GROUND, (("a", 1, "x", 0), (), rows_done(range(200))), *[
            deed for key in range(7) for deed in cells_at(key, *[(key * 10 + at, at) for at in range(2)])])
        lot = whole(web)
        self.assertEqual(len(ways_of(web, lot)), 128)
        self.assertEqual(len(sure(web, lot, A)), 193)
        self.assertEqual(len(perhaps(web, lot, A)), 14)
        each = row(key=chance.below(7), x=1)
        self.with_it(web, lot, A, each)
        self.without_it(web, lot, A, each)


class Refused(Case):
    def test_each(self):
        wrong = (NoWeb, WRONG_WEBS), (NoLot, WRONG_LOTS), (NoQuestion, WRONG_QUESTIONS)
        for more in ({}, {"most": 0}):
            self.refuses_each(sure, (SMALL, WHOLE, A), *wrong, **more)
            self.refuses_each(perhaps, (SMALL, WHOLE, A), *wrong, **more)
            self.refuses_each(order_with, (SMALL, WHOLE, A, SOME), *wrong, (NoRow, WRONG_ROWS), **more)
            self.refuses_each(order_without, (SMALL, WHOLE, A, SOME), *wrong, (NoRow, WRONG_ROWS), **more)

    def test_no_number(self):
        wide = apart(*[6] * 50)
        for thing in WRONG_NUMBERS:
            for web in (SMALL, wide, ()):
                self.refused(NoNumber, sure, web, whole(web), A, most=thing)
                self.refused(NoNumber, perhaps, web, whole(web), A, most=thing)
                self.refused(NoNumber, order_with, web, whole(web), A, SOME, most=thing)
                self.refused(NoNumber, order_without, web, whole(web), A, SOME, most=thing)

    def test_too_wide_goes_last(self):
        wide = apart(*[6] * 50)
        lot = whole(wide)
        self.refused(NoQuestion, sure, wide, lot, ("roll", "key"))
        self.refused(NoQuestion, perhaps, wide, lot, [])
        for function in (order_with, order_without):
            self.refused(NoRow, function, wide, lot, A, (("x", True),))
            self.refused(NoQuestion, function, wide, lot, (), None)
            self.refused(TooWide, function, wide, lot, A, ())

    def test_most_by_name_alone(self):
        for function, handed in ((sure, ()), (perhaps, ()), (order_with, (SOME,)), (order_without, (SOME,))):
            with self.assertRaises(TypeError):
                function(SMALL, WHOLE, A, *handed, 200)

    def test_truths_are_no_numbers(self):
        web = web_of(GROUND, (("a", 1, "x", 0), (), rows_done([1], x=1)))
        self.assertEqual(order_with(web, whole(web), A, row(key=1, x=1)), (("a", 0, "main", 0), ("a", 1, "x", 0)))
        for each in ((("key", True), ("x", 1)), (("key", 1), ("x", True))):
            self.refused(NoRow, order_with, web, whole(web), A, each)
            self.refused(NoRow, order_without, web, whole(web), A, each)
        self.assertEqual(one_of(1)[0], "a")


if __name__ == "__main__":
    unittest.main()
