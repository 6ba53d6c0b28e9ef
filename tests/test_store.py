"""Stage 6, promises 4 to 8 and 10: the store by hand, its edges, and each of its refusals."""

import unittest

from forkrolls.asks.questions import is_question
from forkrolls.errors import (
    Clashes, Lacking, NoBranch, NoColumn, NoDeed, NoHand, NoKey, NoName, NoNumber, NoPlace, NoQuestion, NoRight, NoRow,
    NoTable, RollError, Settled, Taken, TooWide, Undone)
from forkrolls.store.store import Store
from tests import plain
from tests.grids import by_text
from tests.knots import WRONG_PLACES, whole
from tests.looms import NO_NAMES, WRONG_NUMBERS
from tests.shops import A, X, Y, put, row
from tests.test_forms import WRONG_DEEDS
from tests.test_making import WRONG_HANDS
from tests.test_questions import WRONG_QUESTIONS
from tests.test_rights import WRONG_LEVELS, WRONG_OTHERS
from tests.test_whence import WRONG_KEYS, WRONG_NAMES
from tests.things import ANYTHING, Case

MAIN, MINE, YOURS = (0, "main"), (1, "mine"), (2, "yours")
CELL = ("cell", "a", 1, X)
ONE, TWO = row(key=1, x=1, y="one"), row(key=2, x=2)


def begun():
    """Table a with two rows on main; hands 1 and 2 do there, each on a branch of its own."""
    store = Store()
    for deed in [("table", "a"), ("column", "a", "x", "any", None), ("column", "a", "y", "any", None),
                 put(1, x=1, y="one"), put(2, x=2)]:
        store.do(0, "main", deed)
    for hand, name in (MINE, YOURS):
        store.grant(0, "a", hand, 2)
        store.share(0, MAIN, hand)
        store.fork(hand, name, MAIN)
    return store


def no_branches(store, hand):
    """What is no branch and no mark that the hand sees."""
    every = [(each, name) for each in range(8) for name in ("main", "mine", "yours", "kept", "nowhere")]
    seen = [at[:2] for at in store.names(hand)]
    odd = [list(at) for at in every[:4]] + [
        (False, "main"), (0, "main", True), ((0, "main"),), (0,), "main", ("main", 0), (0, ["main"]), ([0], "main"),
        (0, "key"), (8, "main")]
    return [at for at in every if at not in seen] + odd + [thing for thing in ANYTHING if not (
        type(thing) is tuple and thing in seen)]


class StoreCase(Case):
    def unchanged(self, error, store, word, *parts, **more):
        """Refused by the method, and nothing that is told is changed."""
        ahead = told_of(store)
        caught = self.refused(error, getattr(store, word), *parts, **more)
        self.assertEqual(told_of(store), ahead)
        return caught

    def keeps(self, error, name, store, word, *parts, **more):
        self.assertEqual(repr(self.unchanged(error, store, word, *parts, **more).name), repr(name))


def told_of(store):
    """Nearly all that a store tells."""
    found = [str(store), len(store), store.busy()]
    for hand in (0, 1, 2, 3):
        ats = [at[:2] for at in store.names(hand)]
        found += [store.names(hand), store.tables(hand), [store.level(hand, table) for table in ("a", "b")]]
        found += [store.view(hand, at) for at in ats]
    return repr(found)


class ByHand(StoreCase):
    def test_at_first(self):
        store = Store()
        self.assertEqual(str(store), "store of 1 branches, 0 marks")
        self.assertEqual(len(store), 0)
        self.tells(((0, "main", True),), store.names, 0)
        for hand in range(1, 8):
            self.tells((), store.names, hand)
        self.tells((), store.tables, 0)
        self.tells((), store.view, 0, MAIN)
        self.tells((), store.reading, 0, MAIN, ("table", "a"))
        self.tells(("agreed", None, ()), store.why, 0, MAIN, CELL)
        self.tells(((), ()), store.ask, 0, MAIN, A)
        self.tells((), store.behind, 0, MAIN, "a", 1)
        self.tells((), store.log)
        self.assertIs(store.busy(), False)

    def test_done_and_merged(self):
        store = begun()
        self.assertEqual(store.do(1, "mine", put(1, x=5)), ("a", 1, "mine", 0))
        self.assertEqual(store.do(2, "yours", put(1, x="five")), ("a", 2, "yours", 0))
        self.assertEqual(store.do(2, "yours", ("drop", "a", 2)), ("a", 2, "yours", 1))
        self.tells((1,), store.reading, 0, MAIN, CELL)
        self.tells((5,), store.reading, 1, MINE, CELL)
        self.tells((by_text(row(key=1, x="five", y="one")), ()), store.ask, 2, YOURS, A)
        self.assertIsNone(store.merge(0, "main", MINE))
        self.assertIsNone(store.merge(0, "main", YOURS))
        self.tells(("five", 5), store.reading, 0, MAIN, CELL)
        self.tells(((), by_text(row(key=1, x=5, y="one"), row(key=1, x="five", y="one"))), store.ask, 0, MAIN, A)
        self.assertEqual(store.why(0, MAIN, CELL)[0], "clash")
        # Merges are one, whichever order.
        other = begun()
        other.do(2, "yours", put(1, x="five"))
        other.do(1, "mine", put(1, x=5))
        other.do(2, "yours", ("drop", "a", 2))
        other.merge(0, "main", YOURS)
        other.merge(0, "main", MINE)
        other.merge(0, "main", MAIN)
        self.assertEqual(store, other)
        # Undone is as never done.
        store.share(0, MAIN, 1)
        store.merge(1, "mine", MAIN)
        store.do(1, "mine", ("undo", "a", 2, "yours", 0))
        store.merge(0, "main", MINE)
        self.tells((5,), store.reading, 0, MAIN, CELL)
        self.tells(("agreed", 5, ((("a", 0, "main", 3), ("a", 1, "mine", 0)),)), store.why, 0, MAIN, CELL)

    def test_marks(self):
        store = begun()
        self.assertEqual(store.mark(1, "kept", MINE), (1, "kept"))
        store.do(1, "mine", put(1, x=5))
        self.tells((1,), store.reading, 1, (1, "kept"), CELL)
        self.tells(((0, "main", True), (1, "kept", False), (1, "mine", True)), store.names, 1)
        self.tells(((0, "main", True), (1, "kept", False), (1, "mine", True), (2, "yours", True)), store.names, 0)
        self.assertEqual(str(store), "store of 3 branches, 1 marks")
        self.keeps(NoBranch, (1, "kept"), store, "do", 1, "kept", put(1))
        self.keeps(NoBranch, (1, "kept"), store, "merge", 1, "kept", MINE)
        self.keeps(NoBranch, (1, "kept"), store, "pick", 1, "kept", MINE, ("a", 1, "mine", 0))
        self.assertEqual(store.fork(1, "again", (1, "kept")), (1, "again"))
        self.tells((1,), store.reading, 1, (1, "again"), CELL)
        self.assertEqual(store.mark(1, "twice", (1, "kept")), (1, "twice"))
        store.merge(1, "again", MINE)
        self.tells((5,), store.reading, 1, (1, "again"), CELL)

    def test_names_given_once_for_ever(self):
        store = begun()
        store.mark(1, "kept", MINE)
        for name in ("mine", "kept"):
            self.unchanged(Taken, store, "fork", 1, name, MAIN)
            self.unchanged(Taken, store, "mark", 1, name, MAIN)
        self.unchanged(Taken, store, "fork", 0, "main", MAIN)
        store.drop(1, (1, "kept"))
        store.drop(1, MINE)
        store.prune(0)
        for name in ("mine", "kept"):
            self.unchanged(Taken, store, "fork", 1, name, MAIN)
            self.unchanged(Taken, store, "mark", 1, name, MAIN)
        # Of other hands it is free.
        self.assertEqual(store.fork(2, "mine", MAIN), (2, "mine"))
        self.assertEqual(store.fork(1, "main", MAIN), (1, "main"))
        self.assertEqual(store.fork(0, "mine", MAIN), (0, "mine"))
        store.drop(1, (1, "main"))

    def test_numbers(self):
        store = begun()
        self.assertEqual(store.do(0, "main", put(3)), ("a", 0, "main", 5))
        self.assertEqual(store.do(0, "main", ("undo", "a", 0, "main", 5)), ("a", 0, "main", 6))
        store.drop(1, MINE)
        store.drop(2, YOURS)
        store.prune(0)
        self.assertEqual([name[3] for name, _, _ in store.view(0, MAIN)], [1, 2, 3, 4])
        self.assertEqual(store.do(0, "main", put(3)), ("a", 0, "main", 7))
        self.assertEqual(store.do(0, "main", ("table", "b")), ("b", 0, "main", 0))
        self.assertEqual(store.do(0, "main", ("column", "b", "x", "any", None)), ("b", 0, "main", 1))
        self.tells(((0, "main", 1),), store.reading, 0, MAIN, ("slot", "b", "x"))
        store.fork(0, "side", MAIN)
        self.assertEqual(store.do(0, "side", put(4)), ("a", 0, "side", 0))
        self.assertEqual(store.pick(0, "main", (0, "side"), ("a", 0, "side", 0)), ("a", 0, "main", 8))

    def test_a_strike_in_a_dropped_branch_alone(self):
        store = begun()
        store.do(1, "mine", ("undo", "a", 0, "main", 3))
        store.drop(1, MINE)
        self.assertEqual(len(store), 6)
        store.prune(0)
        # All that the first deed writes, the table, is written by others that know it.
        self.assertEqual(len(store), 4)
        self.tells((1,), store.reading, 0, MAIN, CELL)

    def test_hand_0_sees_all(self):
        store = begun()
        store.do(1, "mine", ("table", "b"))
        self.tells((True,), store.reading, 0, MINE, ("table", "b"))
        self.tells(("a", "b"), store.tables, 0)
        self.tells(("a", "b"), store.tables, 1)
        self.tells(("a",), store.tables, 2)
        self.tells(3, store.level, 0, "nowhere")
        self.tells(3, store.level, 1, "b")
        self.tells(0, store.level, 2, "b")
        # It sees all, but does on its own alone.
        self.keeps(NoBranch, (0, "mine"), store, "do", 0, "mine", put(1))
        store.share(0, MINE, 2)
        self.tells((), store.reading, 2, MINE, ("table", "b"))
        store.unshare(0, MINE, 2)
        self.keeps(NoBranch, MINE, store, "reading", 2, MINE, CELL)
        store.drop(0, MINE)
        self.tells(((0, "main", True), (2, "yours", True)), store.names, 0)

    def test_used(self):
        store = Store()
        store.share(0, MAIN, 1)
        store.share(0, MAIN, 2)
        store.fork(1, "mine", MAIN)
        store.fork(2, "yours", MAIN)
        store.do(1, "mine", ("table", "a"))
        self.assertEqual([store.level(hand, "a") for hand in range(3)], [3, 3, 0])
        self.unchanged(NoRight, store, "do", 2, "yours", ("table", "a"))
        store.grant(1, "a", 2, 3)
        # Used before, so the hand gets no level by it; its own table is made anew.
        self.assertEqual(store.do(2, "yours", ("table", "a")), ("a", 2, "yours", 0))
        store.grant(2, "a", 1, 1)
        self.assertEqual(store.level(1, "a"), 1)
        self.unchanged(NoRight, store, "do", 1, "mine", put(1))
        self.unchanged(NoRight, store, "grant", 1, "a", 1, 3)

    def test_alike(self):
        self.assertEqual(Store(), Store())
        self.assertEqual(begun(), begun())
        self.assertNotEqual(begun(), Store())
        for done in [("fork", 1, "x", MINE), ("mark", 1, "x", MINE), ("do", 1, "mine", put(1)), ("grant", 0, "a", 1, 1),
                     ("share", 1, MINE, 2), ("unshare", 0, MAIN, 2), ("drop", 1, MINE), ("grant", 0, "a", 3, 1)]:
            one, other = begun(), begun()
            one.act(done)
            self.assertNotEqual(one, other, done)
            self.assertTrue(one != other)
            other.act(done)
            self.assertEqual(one, other)
        one, other = begun(), begun()
        one.fork(1, "x", MINE)
        other.mark(1, "x", MINE)
        self.assertNotEqual(one, other)
        for thing in (None, 0, (), "store of 1 branches, 0 marks", [], {}):
            self.assertFalse(Store() == thing)

    def test_unlike_by_what_was_given_alone(self):
        one, other = begun(), begun()
        one.fork(1, "x", MINE)
        one.drop(1, (1, "x"))
        self.assertNotEqual(one, other)
        # A number given, and the deed gone.
        one, other = begun(), begun()
        for store, struck in ((one, True), (other, False)):
            for name in ("x", "y"):
                store.fork(0, name, MAIN)
            if struck:
                store.do(0, "x", put(7))
            store.drop(0, (0, "x"))
            store.prune(0)
        self.assertNotEqual(one, other)
        # Settled or not.
        one, other = begun(), begun()
        for store in (one, other):
            store.drop(1, MINE)
            store.drop(2, YOURS)
        self.assertEqual(one, other)

    def test_alike_by_another_path(self):
        """What is gone with what was dropped tells no more of it."""
        one, other = begun(), begun()
        for store in (one, other):
            store.fork(1, "x", MINE)
        one.share(1, (1, "x"), 2)
        self.assertNotEqual(one, other)
        one.share(1, (1, "x"), 3)
        for store in (one, other):
            store.share(1, MINE, 2)
            store.share(0, MAIN, 3)
            store.drop(1, (1, "x"))
        self.assertEqual(one, other)
        for store in (one, other):
            self.tells(((0, "main", True), (1, "mine", True), (2, "yours", True)), store.names, 2)
            self.tells(((0, "main", True),), store.names, 3)

    def test_settled_alone(self):
        """A web of which nothing is pruned, with and without settled deeds."""
        stores = []
        for pruned in (True, False):
            store = Store()
            store.do(0, "main", ("table", "a"))
            if pruned:
                store.prune(0)
            stores.append(store)
        self.assertEqual(stores[0].view(0, MAIN), stores[1].view(0, MAIN))
        self.assertNotEqual(*stores)


class Rights(StoreCase):
    def test_levels(self):
        store = begun()
        store.do(1, "mine", ("table", "b"))
        for level, wanted in ((0, NoRight), (1, NoRight), (2, None)):
            store.grant(0, "a", 1, level)
            for deed in (put(1, x=9), ("undo", "a", 0, "main", 4), ("undo", "a", 0, "nowhere", 4), ("drop", "a", 9)):
                if wanted:
                    self.unchanged(wanted, store, "do", 1, "mine", deed)
            self.unchanged(NoRight, store, "do", 1, "mine", ("end", "a"))
            self.unchanged(NoRight, store, "do", 1, "mine", ("table", "a"))
        self.assertEqual(store.do(1, "mine", put(1, x=9)), ("a", 1, "mine", 0))
        store.grant(0, "a", 1, 3)
        self.unchanged(Taken, store, "do", 1, "mine", ("table", "a"))
        ended = store.do(1, "mine", ("end", "a"))
        store.grant(0, "a", 1, 2)
        self.unchanged(NoRight, store, "do", 1, "mine", ("undo", *ended))
        self.unchanged(NoRight, store, "pick", 1, "mine", MINE, ended)
        self.unchanged(NoRight, store, "do", 1, "mine", ("table", "a"))
        self.unchanged(NoTable, store, "do", 1, "mine", put(1, x=9))
        store.grant(0, "a", 1, 3)
        undone = store.do(1, "mine", ("undo", *ended))
        store.grant(0, "a", 1, 2)
        self.unchanged(NoRight, store, "do", 1, "mine", ("undo", *undone))
        # In the branch of another hand, who has not the deed, it is an undo like any.
        self.keeps(Lacking, ended, store, "do", 2, "yours", ("undo", *ended))

    def test_picked(self):
        store = begun()
        one = store.do(1, "mine", put(1, x=5))
        store.share(1, MINE, 2)
        for level, error in ((0, Lacking), (1, NoRight)):
            store.grant(0, "a", 2, level)
            self.unchanged(error, store, "pick", 2, "yours", MINE, one)
        store.grant(0, "a", 2, 2)
        self.assertEqual(store.pick(2, "yours", MINE, one), ("a", 2, "yours", 0))
        self.tells((5,), store.reading, 2, YOURS, CELL)
        self.assertEqual(store.pick(2, "yours", YOURS, ("a", 2, "yours", 0)), ("a", 2, "yours", 1))
        # What writes None at the table needs more, and asks nothing of what is there.
        ended = store.do(0, "main", ("end", "a"))
        self.unchanged(NoRight, store, "pick", 2, "yours", MAIN, ended)
        store.grant(0, "a", 2, 3)
        self.assertEqual(store.pick(2, "yours", MAIN, ended), ("a", 2, "yours", 2))
        self.assertEqual(store.pick(2, "yours", MAIN, ended), ("a", 2, "yours", 3))
        self.tells((None,), store.reading, 2, YOURS, ("table", "a"))
        self.assertEqual(store.pick(2, "yours", MINE, one), ("a", 2, "yours", 4))
        # The cell is there, the table again, too, by what was picked.
        self.tells((5,), store.reading, 2, YOURS, CELL)
        self.tells((True,), store.reading, 2, YOURS, ("table", "a"))

    def test_picked_first_use(self):
        store = begun()
        store.do(0, "main", ("table", "b"))
        self.assertEqual(store.level(1, "b"), 0)
        store.grant(0, "b", 1, 2)
        made = ("b", 0, "main", 0)
        self.assertEqual(store.pick(1, "mine", MAIN, made), ("b", 1, "mine", 0))
        self.assertEqual(store.level(1, "b"), 2)

    def test_no_trace(self):
        """What a hand doesn't see is as if it weren't."""
        one, other = begun(), begun()
        one.do(0, "main", ("table", "b"))
        other.do(0, "main", ("table", "b"))
        one.do(0, "main", ("column", "b", "x", "any", None))
        one.fork(0, "side", MAIN)
        for branch, value in (("main", 1), ("side", 2)):
            one.do(0, branch, ("put", "b", 1, (((0, "main", 1), value),)))
        one.merge(0, "main", (0, "side"))
        for store in (one, other):
            store.merge(1, "mine", MAIN)
            store.do(1, "mine", put(1, x=6))
        for at in (MAIN, MINE):
            self.assertEqual(one.view(1, at), other.view(1, at))
            for place in (CELL, ("cell", "b", 1, (0, "main", 1)), ("table", "b"), ("row", "b", 1)):
                self.assertEqual(one.reading(1, at, place), other.reading(1, at, place))
                self.assertEqual(one.why(1, at, place), other.why(1, at, place))
            for question in (A, ("roll", "b"), ("join", A, ("roll", "b")), ("count", ("roll", "b"), (), "n")):
                self.assertEqual(one.ask(1, at, question), other.ask(1, at, question))
                self.assertEqual(one.ask(1, at, question, most=1), other.ask(1, at, question, most=1))
            self.assertEqual(one.behind(1, at, "b", 1), ())
        self.refused(TooWide, one.ask, 0, MAIN, A, most=1)
        for word, parts in [("do", (1, "mine", ("put", "b", 1, ()))), ("do", (1, "mine", ("undo", "b", 0, "main", 1))),
                            ("do", (1, "mine", ("table", "b"))), ("do", (1, "mine", ("end", "b")))]:
            for store in (one, other):
                self.unchanged(NoRight, store, word, *parts)
        for store in (one, other):
            self.unchanged(Lacking, store, "pick", 1, "mine", MAIN, ("b", 0, "main", 1))
            self.unchanged(Lacking, store, "pick", 1, "mine", MAIN, ("b", 0, "main", 0))

    def test_a_strict_merge_where_a_table_is_not_seen(self):
        store = begun()
        store.do(0, "main", ("table", "b"))
        store.do(0, "main", ("column", "b", "x", "any", None))
        for name in ("one", "two"):
            store.fork(0, name, MAIN)
        cell = ("cell", "b", 1, (0, "main", 1))
        store.do(0, "one", ("put", "b", 1, ((cell[3], 1),)))
        store.do(0, "two", ("put", "b", 1, ((cell[3], 2),)))
        for at in ((0, "one"), (0, "two")):
            store.share(0, at, 1)
        self.assertIsNone(store.merge(1, "mine", (0, "one"), strict=True))
        other = begun()
        self.assertNotEqual(store, other)
        self.assertIsNone(store.merge(1, "mine", (0, "two"), strict=True))
        self.keeps(Clashes, cell, store, "merge", 0, "one", (0, "two"), strict=True)
        store.grant(0, "b", 1, 1)
        # It clashes in the one already, so that is no news.
        store.fork(1, "late", (0, "one"))
        self.assertIsNone(store.merge(1, "mine", (0, "one"), strict=True))
        self.keeps(Clashes, cell, store, "merge", 1, "late", (0, "two"), strict=True)
        self.assertIsNone(store.merge(1, "late", MINE, strict=True))
        self.tells((1, 2), store.reading, 1, (1, "late"), cell)

    def test_strict_merges(self):
        store = begun()
        store.do(1, "mine", put(1, x=5, y="mine"))
        store.do(1, "mine", ("drop", "a", 2))
        store.do(2, "yours", put(2, x=6))
        store.merge(0, "main", MINE, strict=True)
        self.keeps(Clashes, ("cell", "a", 2, X), store, "merge", 0, "main", YOURS, strict=True)
        store.share(1, MINE, 2)
        self.keeps(Clashes, ("cell", "a", 2, X), store, "merge", 2, "yours", MINE, strict=True)
        self.assertIsNone(store.merge(2, "yours", MINE, strict=False))
        self.tells((6, None), store.reading, 2, YOURS, ("cell", "a", 2, X))
        self.assertIsNone(store.merge(2, "yours", MINE, strict=True))
        self.assertIsNone(store.merge(0, "main", YOURS, strict=True))

    def test_the_first_place_that_clashes(self):
        store = begun()
        store.do(1, "mine", put(1, x=5, y=5))
        store.do(2, "yours", put(1, x=6, y=5))
        store.do(1, "mine", put(2, y=5))
        store.do(2, "yours", put(2, y=6))
        store.merge(0, "main", MINE, strict=True)
        self.keeps(Clashes, ("cell", "a", 1, X), store, "merge", 0, "main", YOURS, strict=True)
        store.do(2, "yours", put(1, x=5))
        self.keeps(Clashes, ("cell", "a", 2, Y), store, "merge", 0, "main", YOURS, strict=True)
        store.do(2, "yours", put(2, y=5))
        self.assertIsNone(store.merge(0, "main", YOURS, strict=True))


class Shared(StoreCase):
    def test_shared_and_not(self):
        store = begun()
        store.do(1, "mine", put(1, x=5))
        store.mark(1, "kept", MINE)
        for at in (MINE, (1, "kept")):
            self.keeps(NoBranch, at, store, "view", 2, at)
            for _ in range(2):
                self.assertIsNone(store.share(1, at, 2))
                self.tells((5,), store.reading, 2, at, CELL)
            self.assertIn((*at, at == MINE), store.names(2))
            self.keeps(NoBranch, at, store, "share", 2, at, 3)
            self.keeps(NoBranch, at, store, "drop", 2, at)
            self.keeps(NoBranch, at, store, "unshare", 2, at, 2)
            for _ in range(2):
                self.assertIsNone(store.unshare(1, at, 2))
                self.keeps(NoBranch, at, store, "view", 2, at)

    def test_what_stays(self):
        store = begun()
        ahead = begun()
        for other in (0, 1):
            store.share(1, MINE, other)
            self.assertEqual(store, ahead)
            store.unshare(1, MINE, other)
            self.assertEqual(store, ahead)
            self.assertIn((1, "mine", True), store.names(other))
        store.unshare(1, MINE, 2)
        store.share(0, MAIN, 1)
        store.unshare(0, MAIN, 0)
        store.share(0, MAIN, 0)
        self.assertEqual(store, ahead)
        store.share(1, MINE, 3)
        store.unshare(1, MINE, 3)
        self.assertEqual(store, ahead)
        self.unchanged(NoBranch, store, "view", 3, MINE)

    def test_dropped(self):
        store = begun()
        store.share(1, MINE, 2)
        store.mark(2, "kept", MINE)
        store.fork(2, "onward", MINE)
        store.drop(1, MINE)
        for hand in (0, 1, 2):
            self.keeps(NoBranch, MINE, store, "reading", hand, MINE, CELL)
            self.keeps(NoBranch, MINE, store, "drop", hand, MINE)
        self.keeps(NoBranch, MINE, store, "do", 1, "mine", put(1))
        self.tells((1,), store.reading, 2, (2, "kept"), CELL)
        store.drop(2, (2, "kept"))
        store.drop(0, (2, "onward"))
        self.tells(((0, "main", True), (2, "yours", True)), store.names, 2)
        self.unchanged(NoRight, store, "drop", 0, MAIN)
        self.keeps(NoBranch, MAIN, store, "drop", 1, MAIN)
        self.keeps(NoBranch, MAIN, store, "drop", 3, MAIN)


class Pruned(StoreCase):
    def test_settled(self):
        store = begun()
        alone = store.do(1, "mine", put(1, x=5))
        mark = store.mark(1, "kept", MINE)
        undone = store.do(1, "mine", ("undo", *alone))
        self.unchanged(NoRight, store, "prune", 1)
        self.assertIsNone(store.prune(0))
        settled = ("a", 0, "main", 3)
        self.keeps(Settled, settled, store, "do", 1, "mine", ("undo", *settled))
        self.keeps(Settled, settled, store, "pick", 1, "mine", MAIN, settled)
        # Shaken or not in common: they aren't settled, or go on as ever.
        self.keeps(Undone, alone, store, "do", 1, "mine", ("undo", *alone))
        self.assertEqual(store.pick(1, "mine", MINE, alone), ("a", 1, "mine", 2))
        self.unchanged(NoDeed, store, "pick", 1, "mine", MINE, undone)
        self.assertEqual(store.do(1, "mine", ("undo", *undone)), ("a", 1, "mine", 3))
        self.tells((5,), store.reading, 1, mark, CELL)

    def test_settled_now_and_then(self):
        store = Store()
        store.do(0, "main", ("table", "a"))
        store.do(0, "main", ("column", "a", "x", "any", None))
        first = store.do(0, "main", ("put", "a", 1, (((0, "main", 1), 1),)))
        store.prune(0)
        self.keeps(Settled, first, store, "do", 0, "main", ("undo", *first))
        second = store.do(0, "main", ("put", "a", 1, (((0, "main", 1), 2),)))
        self.assertEqual(len(store), 3)
        store.prune(0)
        self.assertEqual(len(store), 2)
        # What is gone is lacking: its row and cell are of the second now.
        self.keeps(Lacking, first, store, "do", 0, "main", ("undo", *first))
        self.keeps(Lacking, first, store, "pick", 0, "main", MAIN, first)
        self.keeps(Settled, second, store, "do", 0, "main", ("undo", *second))
        self.tells((2,), store.reading, 0, MAIN, ("cell", "a", 1, (0, "main", 1)))
        ahead = told_of(store)
        store.prune(0)
        self.assertEqual(told_of(store), ahead)

    def test_settled_strikes(self):
        """A strike in common of a deed that another strike, not in common, names: it stays, settled."""
        store = begun()
        one = ("a", 0, "main", 4)
        store.fork(0, "side", MAIN)
        both = store.do(0, "main", ("undo", *one))
        for at in (MINE, YOURS, (0, "side")):
            store.merge(*at, MAIN)
        again = store.do(0, "side", ("undo", *both))
        store.prune(0)
        self.keeps(Settled, both, store, "do", 0, "main", ("undo", *both))
        self.keeps(Settled, both, store, "pick", 0, "main", MAIN, both)
        self.keeps(Settled, one, store, "do", 0, "side", ("undo", *one))
        self.assertEqual(store.do(0, "side", ("undo", *again))[:3], ("a", 0, "side"))

    def test_with_no_deeds(self):
        store = Store()
        store.prune(0)
        self.assertEqual(store, Store())
        store.prune(0)
        store.fork(0, "side", MAIN)
        store.do(0, "side", ("table", "a"))
        store.prune(0)
        self.assertEqual(len(store), 1)
        self.assertEqual(store.do(0, "side", ("undo", "a", 0, "side", 0)), ("a", 0, "side", 1))

    def test_marks_behind_and_ahead(self):
        """A mark keeps what main has long left behind; one that is ahead keeps what main hasn't."""
        store = Store()
        store.mark(0, "nothing", MAIN)
        for deed in [("table", "a"), ("column", "a", "x", "any", None)]:
            store.do(0, "main", deed)
        store.mark(0, "behind", MAIN)
        x = (0, "main", 1)
        for value in range(5):
            store.do(0, "main", ("put", "a", 1, ((x, value),)))
        store.prune(0)
        self.assertEqual(len(store), 7)
        store.drop(0, (0, "nothing"))
        store.prune(0)
        self.assertEqual(len(store), 6)
        store.drop(0, (0, "behind"))
        store.prune(0)
        self.assertEqual(len(store), 2)
        self.tells((4,), store.reading, 0, MAIN, ("cell", "a", 1, x))
        self.tells(((row(key=1, x=4),), ()), store.ask, 0, MAIN, A)

    def test_forked_of_a_pruned_mark(self):
        store = begun()
        store.mark(1, "kept", MINE)
        store.prune(0)
        gone = ("a", 0, "main", 0)
        store.fork(1, "again", (1, "kept"))
        self.assertEqual(store.do(1, "again", put(1, x=5)), ("a", 1, "again", 0))
        for at in ((1, "kept"), (1, "again"), MINE, MAIN):
            view = store.view(1, at)
            self.assertTrue(plain.web(view))
            self.assertNotIn(gone, whole(view))
            self.assertEqual(len(view), 5 if at == (1, "again") else 4)
        self.keeps(Lacking, gone, store, "do", 1, "again", ("undo", *gone))
        other = begun()
        other.prune(0)
        other.mark(1, "kept", MINE)
        other.fork(1, "again", (1, "kept"))
        other.do(1, "again", put(1, x=5))
        self.assertEqual(store, other)

    def test_sixty_deeds(self):
        store = Store()
        store.do(0, "main", ("table", "a"))
        store.do(0, "main", ("table", "b"))
        for number in range(59):
            store.do(0, "main", ("put", "a", number % 7, ()))
        self.unchanged(TooWide, store, "do", 0, "main", ("put", "a", 1, ()))
        self.unchanged(TooWide, store, "do", 0, "main", ("undo", "a", 0, "main", 1))
        self.unchanged(TooWide, store, "pick", 0, "main", MAIN, ("a", 0, "main", 3))
        # TooWide goes last.
        self.keeps(Lacking, ("a", 0, "main", 99), store, "do", 0, "main", ("undo", "a", 0, "main", 99))
        self.unchanged(NoRow, store, "do", 0, "main", ("drop", "a", 8))
        self.unchanged(NoColumn, store, "do", 0, "main", ("leave", "a", X))
        self.unchanged(Taken, store, "do", 0, "main", ("table", "a"))
        store.do(0, "main", ("put", "b", 1, ()))
        store.prune(0)
        self.assertEqual(store.do(0, "main", ("put", "a", 1, ())), ("a", 0, "main", 60))


class Refused(StoreCase):
    def each(self, word, sound, *wrong, **more):
        """Each wrong argument alone, and with all behind it wrong, too; nothing is changed."""
        store = begun()
        store.mark(1, "kept", MINE)
        ahead = told_of(store)
        self.refuses_each(getattr(store, word), sound, *wrong, **more)
        self.assertEqual(told_of(store), ahead)

    def hands(self):
        return (NoHand, WRONG_HANDS)

    def ats(self, hand):
        store = begun()
        store.mark(1, "kept", MINE)
        return (NoBranch, no_branches(store, hand))

    def test_forks_and_marks(self):
        for word in ("fork", "mark"):
            self.each(word, (1, "new", MINE), self.hands(), (NoName, WRONG_NAMES), self.ats(1))
            # Taken goes behind all of these.
            self.each(word, (1, "mine", MINE), self.hands(), (NoName, WRONG_NAMES), self.ats(1))

    def test_do(self):
        others = ["main", "yours", "kept", "nowhere"]
        self.each("do", (1, "mine", put(1)), self.hands(), (NoName, WRONG_NAMES), (NoDeed, WRONG_DEEDS))
        self.each("do", (1, "mine", put(1)), self.hands(), (NoBranch, others), (NoDeed, WRONG_DEEDS))
        self.each("do", (3, "nowhere", put(1)), self.hands(), (NoBranch, ["main", "mine"]))
        store = begun()
        for name in others:
            self.keeps(NoBranch, (1, name), store, "do", 1, name, put(1))
            self.keeps(NoBranch, (1, name), store, "do", 1, name, None)

    def test_what_do_refuses_in_its_order(self):
        store = begun()
        named = ("a", 0, "main", 4)
        for deed, error in [
                (("column", "b", "x", "any", None), NoRight), (("undo", "b", 0, "main", 0), NoRight),
                (("end", "b"), NoRight), (("column", "a", "x", "any", None), Taken), (("table", "a"), NoRight),
                (("leave", "a", (7, "x", 0)), NoColumn), (("blank", "a", 7, X), NoRow),
                (("blank", "a", 7, (7, "x", 0)), NoColumn), (("call", "a", X, "y"), Taken)]:
            self.unchanged(error, store, "do", 1, "mine", deed)
        self.keeps(Lacking, ("a", 0, "main", 5), store, "do", 1, "mine", ("undo", "a", 0, "main", 5))
        undone = store.do(1, "mine", ("undo", *named))
        self.keeps(Undone, named, store, "do", 1, "mine", ("undo", *named))
        store.prune(0)
        self.keeps(Settled, named, store, "do", 1, "mine", ("undo", *named))
        self.assertEqual(store.do(1, "mine", ("undo", *undone))[3], 1)

    def test_pick(self):
        named = ("a", 0, "main", 3)
        lacking = [*NO_NAMES, ("a", 0, "main", 9), ("b", 0, "main", 0), ("a", 2, "yours", 0)]
        self.each("pick", (1, "mine", MAIN, named), self.hands(), (NoName, WRONG_NAMES), self.ats(1))
        self.each("pick", (1, "mine", MAIN, named), self.hands(), (NoBranch, ["main", "kept", "yours"]), self.ats(1),
                  (Lacking, lacking))
        store = begun()
        store.do(2, "yours", put(1, x=5))
        for thing in lacking:
            self.keeps(Lacking, thing, store, "pick", 1, "mine", MAIN, thing)
        strike = store.do(1, "mine", ("undo", *named))
        store.grant(0, "a", 1, 1)
        # A strike is refused ahead of the level.
        self.unchanged(NoDeed, store, "pick", 1, "mine", MINE, strike)
        self.unchanged(NoRight, store, "pick", 1, "mine", MINE, named)
        store.prune(0)
        self.keeps(Settled, named, store, "pick", 1, "mine", MINE, named)

    def test_merge(self):
        for more in ({}, {"strict": True}, {"strict": False}):
            self.each("merge", (1, "mine", MAIN), self.hands(), (NoName, WRONG_NAMES), self.ats(1), **more)
            self.each("merge", (1, "mine", MAIN), self.hands(), (NoBranch, ["main", "kept", "yours", "nowhere"]),
                      self.ats(1), **more)
        with self.assertRaises(TypeError):
            begun().merge(1, "mine", MAIN, True)

    def test_grant(self):
        self.each("grant", (0, "a", 3, 1), self.hands(), (NoName, WRONG_NAMES), (NoHand, WRONG_OTHERS),
                  (NoNumber, WRONG_LEVELS))
        store = begun()
        self.unchanged(NoRight, store, "grant", 1, "a", 3, 1)
        self.unchanged(NoRight, store, "grant", 1, "nowhere", 3, 1)
        self.unchanged(NoTable, store, "grant", 0, "nowhere", 3, 1)

    def test_share(self):
        for word in ("share", "unshare"):
            own = [at for at in self.ats(1)[1]] + [MAIN]
            self.each(word, (1, MINE, 2), self.hands(), (NoBranch, own), (NoHand, WRONG_HANDS))
            self.each(word, (0, MINE, 2), self.hands(), self.ats(0), (NoHand, WRONG_HANDS))
            store = begun()
            self.keeps(NoBranch, MAIN, store, word, 1, MAIN, 2)
            self.keeps(NoBranch, MAIN, store, word, 1, MAIN, None)
            self.keeps(NoBranch, YOURS, store, word, 1, YOURS, 9)

    def test_drop_and_prune(self):
        self.each("drop", (1, MINE), self.hands(), (NoBranch, self.ats(1)[1] + [MAIN]))
        self.each("drop", (0, MINE), self.hands(), self.ats(0))
        self.each("prune", (0,), self.hands())
        for hand in range(1, 8):
            self.unchanged(NoRight, begun(), "prune", hand)

    def test_what_is_told(self):
        self.each("names", (1,), self.hands())
        self.each("tables", (1,), self.hands())
        self.each("level", (1, "a"), self.hands(), (NoName, WRONG_NAMES))
        self.each("view", (1, MINE), self.hands(), self.ats(1))
        self.each("view", (0, MINE), self.hands(), self.ats(0))
        self.each("view", (3, MINE), self.hands(), self.ats(3))
        self.each("reading", (1, MINE, CELL), self.hands(), self.ats(1), (NoPlace, WRONG_PLACES))
        self.each("why", (1, MINE, CELL), self.hands(), self.ats(1), (NoPlace, WRONG_PLACES))
        self.each("behind", (1, MINE, "a", 1), self.hands(), self.ats(1), (NoName, WRONG_NAMES), (NoKey, WRONG_KEYS))
        for more in ({}, {"most": 0}):
            self.each("ask", (1, MINE, A), self.hands(), self.ats(1), (NoQuestion, WRONG_QUESTIONS), **more)
        store = begun()
        for thing in WRONG_NUMBERS:
            self.refused(NoNumber, store.ask, 1, MINE, A, most=thing)
        with self.assertRaises(TypeError):
            store.ask(1, MINE, A, 200)

    def test_no_branches_keep_what_was_handed_in(self):
        store = begun()
        for thing in self.ats(1)[1]:
            self.keeps(NoBranch, thing, store, "view", 1, thing)
            self.keeps(NoBranch, thing, store, "fork", 1, "mine", thing)
            self.keeps(NoBranch, thing, store, "share", 1, thing, 2)
            self.keeps(NoBranch, thing, store, "drop", 1, thing)

    def test_too_wide(self):
        store = begun()
        for number in range(5):
            store.fork(0, "abcdefg"[number], MAIN)
        for name in "abcde":
            for key in (1, 2, 3, 4):
                store.do(0, name, ("put", "a", key, ((X, "abcde".index(name)),)))
        for name in "abcde":
            store.merge(0, "main", (0, name))
        self.refused(TooWide, store.ask, 0, MAIN, A)
        self.refused(TooWide, store.ask, 0, MAIN, A, most=624)
        self.assertEqual(len(store.ask(0, MAIN, A, most=625)[1]), 20)
        self.assertEqual(store.ask(0, MAIN, ("keep", A, ("key",)), most=625), (
            tuple(row(key=key) for key in (1, 2, 3, 4)), ()))
        self.assertTrue(is_question(A))


ROWS = (("do", 1, "mine", put(1, x=5)), ("fork", 1, "new", MINE), ("mark", 1, "kept", MINE), ("grant", 0, "a", 3, 1),
        ("merge", 0, "main", MINE), ("strict", 1, "mine", MAIN), ("pick", 2, "yours", MAIN, ("a", 1, "mine", 0)),
        ("share", 1, MINE, 2), ("unshare", 1, MINE, 2), ("drop", 1, MINE), ("prune", 0))
TOLD = (("a", 1, "mine", 0), (1, "new"), (1, "kept"), None, None, None, ("a", 2, "yours", 0), None, None, None, None)


class Many(StoreCase):
    def test_each_row(self):
        store, other = begun(), begun()
        self.assertEqual(repr(store.many(ROWS)), repr(TOLD))
        for word, *parts in ROWS:
            if word == "strict":
                other.merge(*parts, strict=True)
            else:
                getattr(other, word)(*parts)
        self.assertEqual(store, other)
        self.tells(tuple(pair for each in ROWS for pair in (("in", each), ("out", each))), store.log)
        self.tells((), other.log)
        self.assertIs(store.busy(), False)
        self.assertEqual(store.many(()), ())
        self.assertEqual(len(store.log()), 2 * len(ROWS))
        store.many((ROWS[3],))
        self.assertEqual(len(store.log()), 2 * len(ROWS) + 2)

    def test_up_to_the_first_refused(self):
        for at in range(4):
            store, other = begun(), begun()
            rows = (*ROWS[:at], ("do", 1, "nowhere", put(1)), *ROWS[at:])
            with self.assertRaises(NoBranch) as caught:
                store.many(rows)
            self.assertEqual(caught.exception.name, (1, "nowhere"))
            other.many(ROWS[:at])
            self.assertEqual(store, other)
            self.assertEqual(store.log(), tuple(pair for each in rows[:at + 1]
                                                for pair in (("in", each), ("out", each))))
            self.assertIs(store.busy(), False)
            self.assertEqual(repr(store.many(ROWS[at:])), repr(TOLD[at:]))

    def test_a_strict_one_refused(self):
        store = begun()
        store.do(1, "mine", put(1, x=5))
        store.do(0, "main", put(1, x=6))
        with self.assertRaises(Clashes) as caught:
            store.many((("strict", 1, "mine", MAIN),))
        self.assertEqual(caught.exception.name, CELL)
        self.assertEqual(store.many((("merge", 1, "mine", MAIN),)), (None,))

    def test_no_rows(self):
        wrong = [each[:-1] for each in ROWS] + [(*each, None) for each in ROWS] + [list(each) for each in ROWS] + [
            ("Fork", 1, "new", MINE), ("names", 1), ("view", 1, MINE), ("ask", 1, MINE, A), ("many", ()), ("log",),
            ("busy",), ("act", ROWS[0]), ("__init__",), ("__len__",), ("reading", 1, MINE, CELL), ("_sees", 1, MINE),
            (["fork"], 1, "new", MINE), (None, 1, "new", MINE), ({}, 0), ((), 0), ("fork",), ("prune", 0, 0),
            ("prune",), (1, "new", MINE), ("_merge_strictly", 1, "mine", MAIN)] + ANYTHING
        for thing in wrong:
            store, other = begun(), begun()
            with self.assertRaises(NoRow) as caught:
                store.many((ROWS[0], thing, ROWS[1]))
            self.assertIs(type(caught.exception), NoRow)
            other.do(1, "mine", put(1, x=5))
            self.assertEqual(store, other)
            log = (("in", ROWS[0]), ("out", ROWS[0]), ("in", thing), ("out", thing))
            self.assertEqual(repr(store.log()), repr(log))
            self.assertIs(store.busy(), False)

    def test_no_tuple_of_rows(self):
        store = begun()
        for thing in [list(ROWS), dict.fromkeys(ROWS), ROWS[0][0]] + [
                thing for thing in ANYTHING if type(thing) is not tuple]:
            self.unchanged(NoRow, store, "many", thing)
            self.tells((), store.log)

    def test_each_part_as_the_method_does(self):
        for thing, error in [(("fork", 8, "new", MINE), NoHand), (("fork", 1, "key", MINE), NoName),
                             (("fork", 1, "new", [1, "mine"]), NoBranch), (("do", 1, "mine", ["end", "a"]), NoDeed),
                             (("grant", 0, "a", 0, 9), NoHand), (("grant", 0, "a", 1, 9), NoNumber),
                             (("prune", 1), NoRight), (("prune", True), NoHand), (("pick", 1, "mine", MAIN, 5),
                                 Lacking),
                             (("merge", 1, "mine", None), NoBranch), (("share", 1, MINE, -1), NoHand),
                             (("drop", 0, MAIN), NoRight), (("mark", 1, "mine", MAIN), Taken)]:
            store = begun()
            with self.assertRaises(error) as caught:
                store.many((thing,))
            self.assertIs(type(caught.exception), error)
            self.assertEqual(repr(store.log()), repr((("in", thing), ("out", thing))))
            self.assertEqual(store, begun())

    def test_what_is_told_is_the_askers_own(self):
        store = begun()
        thing = ["fork", [1], {"a": [2]}]
        with self.assertRaises(NoRow):
            store.many((thing,))
        log = store.log()
        log[0][1][1].append(5)
        log[0][1][2]["a"].append(5)
        self.assertEqual(store.log(), (("in", thing), ("out", thing)))
        self.assertEqual(thing, ["fork", [1], {"a": [2]}])

    def test_busy_within(self):
        heard = []

        class Heard(Store):
            def prune(self, hand):
                heard.append(self.busy())
                Store.prune(self, hand)

        store = Heard()
        with self.assertRaises(RollError):
            store.many((("prune", 0), ("prune", 9)))
        self.assertEqual(heard, [True, True])
        self.assertIs(store.busy(), False)


class Whole(StoreCase):
    def test_the_promise(self):
        """A branch answers as plain stores do that do just its standing deeds, in each of their orders."""
        store = begun()
        store.do(1, "mine", put(1, x=5))
        store.do(2, "yours", ("blank", "a", 1, X))
        struck = store.do(2, "yours", put(3, x=3))
        store.do(2, "yours", ("undo", *struck))
        store.merge(0, "main", MINE)
        store.merge(0, "main", YOURS)
        for pruned in (False, True):
            view = store.view(0, MAIN)
            orders = plain.orders(view, whole(view))
            ends = {plain.state_by(view, order) for order in orders}
            self.assertEqual(len(ends), 2)
            self.assertEqual({dict(end).get(CELL) for end in ends}, {5, None})
            self.tells(((TWO,), by_text(row(key=1, x=5, y="one"), row(key=1, y="one"))), store.ask, 0, MAIN, A)
            clash = store.why(0, MAIN, CELL)
            self.assertEqual(clash[0], "clash")
            self.assertEqual({dict(plain.state_by(view, order)).get(CELL) for order in clash[1:]}, {5, None})
            self.assertEqual([place for place, _ in store.behind(0, MAIN, "a", 1)][0], CELL)
            self.assertEqual(len(store.behind(0, MAIN, "a", 1)[0][1]), 2)
            store.prune(0)
            self.assertIs(pruned or len(store) < len(view), True)
        self.assertEqual(ONE[1], ("x", 1))


if __name__ == "__main__":
    unittest.main()
