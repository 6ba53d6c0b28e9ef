"""Stage 6, promises 1 and 2: rights, needs, views."""

import unittest

from forkrolls.errors import NoDeed, NoHand, NoLot, NoName, NoNumber, NoRight, NoTable, NoWeb
from forkrolls.rights.rights import Rights
from forkrolls.webs.lots import lot_seen
from forkrolls.worlds.worlds import worlds_of
from tests import plain, plain_asks
from tests.knots import (
    AFAR, ALIKE, BASE, LEFT, MERGED, PLACES, RIGHT, STORY, STRUCK, knotted, lot_of, whole)
from tests.looms import SMALL, WHOLE, WRONG_LOTS, WRONG_WEBS, made_lot, strikes_of_strikes
from tests.plain_store import PlainRights, need, seen, sure_and_perhaps
from tests.shops import LEFT as LEFTS, MAIN, QUESTIONS, X, few_orders, shop, wovens
from tests.test_forms import WRONG_DEEDS
from tests.test_making import WRONG_HANDS
from tests.test_whence import WRONG_NAMES
from tests.things import ANYTHING, Case, Chance
from tests.weaver import Weaver, any_deed, woven

WRONG_LEVELS = [thing for thing in ANYTHING if not plain.whole(thing, 0, 3)] + [4, -1, True, False]
WRONG_OTHERS = [0, *WRONG_HANDS]


def used(*pairs):
    """Rights where each table was used first by its hand."""
    rights = Rights()
    for table, hand in pairs:
        rights.use(hand, table)
    return rights


class Levels(Case):
    def test_at_first(self):
        rights = Rights()
        self.assertEqual(len(rights), 0)
        self.tells((), rights.used)
        for hand in range(8):
            self.tells(3 if hand == 0 else 0, rights.level, "a", hand)
            self.tells((), rights.seen, hand)
        self.tells((), rights.granted, "a")

    def test_use(self):
        rights = Rights()
        self.assertIs(rights.use(2, "b"), True)
        self.assertIs(rights.use(2, "b"), False)
        self.assertIs(rights.use(3, "b"), False)
        self.assertIs(rights.use(0, "a"), True)
        self.assertIs(rights.use(3, "a"), False)
        self.assertIs(rights.use(0, "b"), False)
        self.assertEqual(len(rights), 2)
        self.tells(("a", "b"), rights.used)
        self.tells(((2, 3),), rights.granted, "b")
        self.tells((), rights.granted, "a")
        self.assertEqual([rights.level("b", hand) for hand in range(8)], [3, 0, 3, 0, 0, 0, 0, 0])
        self.assertEqual([rights.level("a", hand) for hand in range(8)], [3, 0, 0, 0, 0, 0, 0, 0])
        self.tells(("a", "b"), rights.seen, 0)
        self.tells(("b",), rights.seen, 2)
        self.tells((), rights.seen, 3)

    def test_grant(self):
        rights = used(("a", 1), ("b", 0), ("c", 7))
        for level in (0, 1, 2, 3):
            self.assertIsNone(rights.grant(1, "a", 2, level))
            self.tells(level, rights.level, "a", 2)
            self.tells(("a",) if level else (), rights.seen, 2)
        rights.grant(2, "a", 3, 1)
        rights.grant(0, "b", 3, 2)
        self.tells(("a", "b"), rights.seen, 3)
        self.tells(((1, 3), (2, 3), (3, 1)), rights.granted, "a")
        self.tells(((3, 2),), rights.granted, "b")
        self.tells((), rights.granted, "nowhere")
        # Perhaps its own: then it is the last time.
        rights.grant(1, "a", 1, 2)
        self.tells(2, rights.level, "a", 1)
        self.refused(NoRight, rights.grant, 1, "a", 1, 3)
        self.assertIs(rights.use(1, "a"), False)
        self.tells(2, rights.level, "a", 1)
        rights.grant(2, "a", 2, 0)
        self.tells(((1, 2), (3, 1)), rights.granted, "a")
        self.refused(NoRight, rights.grant, 2, "a", 2, 1)
        rights.grant(0, "a", 1, 3)
        self.tells(3, rights.level, "a", 1)
        self.tells(("a", "b", "c"), rights.used)

    def test_refused(self):
        rights = used(("a", 1))
        rights.grant(1, "a", 2, 2)
        self.refuses_each(rights.grant, (1, "a", 3, 1), (NoHand, WRONG_HANDS), (NoName, WRONG_NAMES),
                          (NoHand, WRONG_OTHERS), (NoNumber, WRONG_LEVELS))
        # Each argument is asked ahead of who may grant, and that ahead of the table.
        for hand in (2, 3, 1):
            self.refused(NoHand, rights.grant, hand, "nowhere", 0, 9)
            self.refused(NoNumber, rights.grant, hand, "nowhere", 3, 4)
            self.refused(NoRight, rights.grant, hand, "nowhere", 3, 1)
        self.refused(NoRight, rights.grant, 2, "a", 3, 1)
        self.refused(NoRight, rights.grant, 3, "a", 3, 0)
        self.refused(NoTable, rights.grant, 0, "nowhere", 3, 1)
        self.assertEqual(rights, changed(("a", 1), (1, "a", 2, 2)))
        self.refuses_each(rights.level, ("a", 1), (NoName, WRONG_NAMES), (NoHand, WRONG_HANDS))
        self.refuses_each(rights.use, (1, "a"), (NoHand, WRONG_HANDS), (NoName, WRONG_NAMES))
        self.refuses_each(rights.granted, ("a",), (NoName, WRONG_NAMES))
        self.refuses_each(rights.seen, (1,), (NoHand, WRONG_HANDS))
        self.assertEqual(rights, changed(("a", 1), (1, "a", 2, 2)))
        self.tells(("a",), rights.used)

    def test_alike(self):
        self.assertEqual(Rights(), Rights())
        self.assertEqual(used(("a", 1), ("b", 2)), used(("b", 2), ("a", 1)))
        self.assertNotEqual(used(("a", 1)), used(("a", 2)))
        self.assertNotEqual(used(("a", 1)), used(("a", 1), ("b", 0)))
        self.assertNotEqual(used(("a", 0)), Rights())
        self.assertEqual(changed(("a", 1), (1, "a", 2, 2), (1, "a", 2, 0)), used(("a", 1)))
        self.assertNotEqual(changed(("a", 1), (1, "a", 2, 2)), changed(("a", 1), (1, "a", 2, 1)))
        self.assertEqual(changed(("a", 0), (0, "a", 1, 3)), used(("a", 1)))
        for other in (None, 0, (), {}, "a", ("a",)):
            self.assertFalse(used(("a", 1)) == other)
            self.assertTrue(used(("a", 1)) != other)

    def test_as_plainly(self):
        chance = Chance(241)
        for _ in range(20):
            rights, plainly = Rights(), PlainRights()
            for _ in range(60):
                hand, other, table = chance.below(5), chance.below(5), chance.one(["a", "b", "c"])
                if chance.below(4) == 0:
                    self.assertIs(rights.use(hand, table), plainly.use(hand, table))
                else:
                    level = chance.below(5)
                    try:
                        plainly.grant(hand, table, other, level)
                    except plain_asks.Refused as error:
                        wanted = {each.__name__: each for each in (NoHand, NoNumber, NoRight, NoTable)}[error.args[0]]
                        self.refused(wanted, rights.grant, hand, table, other, level)
                    else:
                        self.assertIsNone(rights.grant(hand, table, other, level))
                self.tells(tuple(sorted(plainly.levels)), rights.used)
                self.assertEqual(len(rights), len(plainly.levels))
                for each in ("a", "b", "c", "d"):
                    self.tells(plainly.granted(each), rights.granted, each)
                    self.assertEqual([rights.level(each, one) for one in range(8)],
                                     [plainly.level(each, one) for one in range(8)])
                for one in range(8):
                    self.tells(plainly.seen(one), rights.seen, one)


def changed(first, *grants):
    rights = used(first)
    for grant in grants:
        rights.grant(*grant)
    return rights


class Needs(Case):
    def test_by_hand(self):
        weaver = shop()
        web, lot = weaver.web, weaver.lots[MAIN]
        rights = used(("a", 1))
        for deed, wanted in [
                (("table", "a"), 3), (("table", "b"), 0), (("column", "a", "z", "any", None), 2),
                (("column", "b", "z", "any", None), 2), (("call", "a", X, "z"), 2), (("kind", "a", X, "any"), 2),
                (("else", "a", X, 1), 2), (("put", "a", 1, ()), 2), (("blank", "a", 1, X), 2), (("drop", "a", 1), 2),
                (("leave", "a", X), 2), (("end", "a"), 3), (("end", "b"), 3), (("undo", *lot[0]), 2),
                (("undo", *lot[-1]), 2), (("undo", "a", 7, "nowhere", 0), 2), (("undo", "b", 0, "main", 0), 2)]:
            self.tells(wanted, rights.need, web, lot, deed)
            self.tells(wanted, rights.need, (), (), deed)
        self.tells(0, Rights().need, web, lot, ("table", "a"))

    def test_undo_of_an_end(self):
        weaver = shop()
        ended = weaver.do(LEFTS, "end", "a")
        undone = weaver.do(LEFTS, "undo", *ended)
        again = weaver.do(LEFTS, "undo", *undone)
        dropped = weaver.do(MAIN, "drop", "a", 1)
        web, lot = weaver.web, weaver.lots[LEFTS]
        rights = Rights()
        for name in (ended, undone, again):
            self.tells(3, rights.need, web, lot, ("undo", *name))
            # Where the lot hasn't the deed:
            self.tells(2, rights.need, web, weaver.lots[MAIN], ("undo", *name))
        self.tells(3, rights.need, web, lot[:-1], ("undo", *undone))
        self.tells(2, rights.need, web, weaver.lots[MAIN], ("undo", *dropped))
        self.tells(2, rights.need, web, lot, ("undo", *dropped))

    def test_as_plainly(self):
        chance = Chance(242)
        rights = used(("a", 1))
        found = {}
        for _ in range(30):
            weaver = woven(chance, 14)
            for _ in range(30):
                asked = any_deed(chance, weaver.web)
                for lot in (whole(weaver.web), weaver.lots[MAIN], ()):
                    wanted = need(("a",), weaver.web, lot, asked)
                    self.tells(wanted, rights.need, weaver.web, lot, asked)
                    found[(asked[0], wanted)] = True
        self.assertEqual({word for word, _ in found}, {"table", "column", "call", "kind", "else", "put", "blank",
            "drop",
                                                       "leave", "end", "undo"})
        self.assertIn(("undo", 3), found)
        self.assertIn(("undo", 2), found)

    def test_strikes_of_strikes(self):
        web = strikes_of_strikes(100)
        self.tells(2, Rights().need, web, whole(web), ("undo", *whole(web)[0]))

    def test_refused(self):
        rights = used(("a", 1))
        self.refuses_each(rights.need, (SMALL, WHOLE, ("end", "a")), (NoWeb, WRONG_WEBS), (NoLot, WRONG_LOTS),
                          (NoDeed, WRONG_DEEDS))


class Views(Case):
    def test_by_hand(self):
        rights = used(("a", 1), ("b", 2))
        lot = lot_of(BASE, LEFT, RIGHT, AFAR, STRUCK, MERGED)
        every = tuple(deed for deed in STORY if deed[0] in lot)
        self.tells(every, rights.view, 0, STORY, lot)
        self.tells(seen(every, ("a",)), rights.view, 1, STORY, lot)
        self.tells(seen(every, ("b",)), rights.view, 2, STORY, lot)
        self.tells((), rights.view, 3, STORY, lot)
        self.tells((), rights.view, 0, STORY, ())
        rights.grant(2, "b", 1, 1)
        self.tells(every, rights.view, 1, STORY, lot)
        # Hand 0 sees the tables that were used, no others.
        self.tells((), Rights().view, 0, STORY, lot)
        self.assertEqual([name for name, _, _ in rights.view(2, STORY, lot_of(BASE, ALIKE, AFAR))], [AFAR])

    def test_no_trace(self):
        """Readings, ways' ends and answers at the tables seen are the lot's own, cut."""
        chance = Chance(243)
        for _ in range(30):
            web = knotted(chance, 9, chance.mixed(PLACES)[:5], 5, 2)
            lot = made_lot(chance, web)
            rights = used(("a", 1), ("b", 2))
            for hand, tables in ((0, ("a", "b")), (1, ("a",)), (2, ("b",)), (3, ())):
                view = self.told(rights.view, hand, web, lot)
                self.assertTrue(plain.web(view))
                self.assertEqual(whole(view), lot_seen(web, lot, tables))
                for place in PLACES:
                    wanted = plain.reading(web, lot, place) if place[1] in tables else ()
                    self.assertEqual(repr(plain.reading(view, whole(view), place)), repr(wanted))
                cut = {tuple(pair for pair in state if pair[0][1] in tables) for state, _ in
                       worlds_of(web, lot, most=10 ** 4)}
                self.assertEqual({state for state, _ in worlds_of(view, whole(view), most=10 ** 4)}, cut)

    def test_answers(self):
        for weaver in wovens(244, 8, 6):
            lot = whole(weaver.web)
            if few_orders(weaver.web, lot, 200):
                view = used(("a", 1), ("b", 2)).view(1, weaver.web, lot)
                mine = list(plain.ends(view, whole(view)))
                every = list(plain.ends(weaver.web, lot))
                for question in QUESTIONS:
                    if plain_asks.tables_in(question) <= {"a"}:
                        self.assertEqual(sure_and_perhaps(mine, question), sure_and_perhaps(every, question))

    def test_refused(self):
        rights = used(("a", 1))
        self.refuses_each(rights.view, (1, SMALL, WHOLE), (NoHand, WRONG_HANDS), (NoWeb, WRONG_WEBS),
                          (NoLot, WRONG_LOTS))

    def test_of_a_weaver(self):
        weaver = Weaver()
        for table in ("a", "b"):
            weaver.do(MAIN, "table", table)
            weaver.do(MAIN, "column", table, "x", "any", None)
        view = used(("a", 0), ("b", 5)).view(5, weaver.web, weaver.lots[MAIN])
        self.assertEqual([(name, knows) for name, knows, _ in view], [
            (("b", 0, "main", 0), ()), (("b", 0, "main", 1), (("b", 0, "main", 0),))])


if __name__ == "__main__":
    unittest.main()
