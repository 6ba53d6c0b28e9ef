"""Stage 2, promises 7, 8 and 9: lots, and webs and lots seen at some tables."""

import itertools
import unittest

from forkrolls.errors import Lacking, NoLot, NoName, NoWeb
from forkrolls.webs.lots import common, is_lot, least_lot, lot_seen, seen, together, tops_of, whole_of
from forkrolls.webs.webs import is_web
from tests import plain
from tests.looms import (
    AGAIN, BEHIND, ELSEWHERE, FIRST, LEFT, MERGED, NO_LOTS, NO_NAMES, RIGHT, SMALL, STRANGE, STRIKE, TRUE_ONE, WHOLE,
    WRONG_LOTS, WRONG_WEBS, beside, in_a_row, made_lot, made_web, stacked)
from tests.things import ANYTHING, Case, Chance, bent

ROW = stacked(in_a_row(150))
WIDE = stacked(beside(300))
NO_TABLES = [thing for thing in ANYTHING if not plain.names(thing)] + [
    ("b", "a"), ("a", "a"), ["a"], ("a", 0), ("a", ("b",)), ("a", "key"), "a"]


def lot_of(*names):
    return tuple(sorted(names))


class Lots(Case):
    def test_by_hand(self):
        for lot in [(), (FIRST,), lot_of(FIRST, LEFT), lot_of(FIRST, LEFT, RIGHT), lot_of(FIRST, LEFT, STRIKE),
                    (ELSEWHERE,), lot_of(FIRST, ELSEWHERE), WHOLE]:
            self.whether(True, is_lot, SMALL, lot)
        for thing in NO_LOTS:
            self.whether(False, is_lot, SMALL, thing)
        self.whether(True, is_lot, (), ())
        self.whether(False, is_lot, (), (FIRST,))

    def test_each_row_of_names(self):
        for many in range(len(WHOLE) + 1):
            for names in itertools.combinations(WHOLE, many):
                self.whether(plain.lot(SMALL, names), is_lot, SMALL, names)

    def test_anything_and_bent(self):
        for thing in ANYTHING:
            for lot in (thing, (thing,), (FIRST, thing), (thing, FIRST), WHOLE + (thing,)):
                self.whether(plain.lot(SMALL, lot), is_lot, SMALL, lot)
        for thing in [*bent(lot_of(FIRST, LEFT)), *bent(WHOLE)]:
            self.whether(plain.lot(SMALL, thing), is_lot, SMALL, thing)

    def test_whole(self):
        self.tells((), whole_of, ())
        self.tells(WHOLE, whole_of, SMALL)
        for web in (ROW, WIDE, BEHIND):
            self.tells(tuple(deed[0] for deed in web), whole_of, web)
            self.whether(True, is_lot, web, whole_of(web))

    def test_least(self):
        self.tells((), least_lot, SMALL, ())
        self.tells((), least_lot, (), ())
        self.tells(lot_of(FIRST, LEFT), least_lot, SMALL, (LEFT,))
        self.tells(lot_of(FIRST, LEFT, RIGHT, STRIKE, ELSEWHERE, MERGED), least_lot, SMALL, (MERGED,))
        for names in itertools.product(WHOLE, repeat=2):
            wanted = {*names}.union(*(knows for name, knows, _ in SMALL if name in names))
            self.tells(lot_of(*wanted), least_lot, SMALL, names)
        self.tells(WHOLE, least_lot, SMALL, (MERGED, AGAIN, MERGED, FIRST, AGAIN, LEFT))
        self.tells(tuple(deed[0] for deed in ROW), least_lot, ROW, (ROW[0][0],))

    def test_tops(self):
        self.tells((), tops_of, SMALL, ())
        self.tells((FIRST,), tops_of, SMALL, (FIRST,))
        self.tells(lot_of(LEFT, RIGHT), tops_of, SMALL, lot_of(FIRST, LEFT, RIGHT))
        self.tells(lot_of(AGAIN, MERGED), tops_of, SMALL, WHOLE)
        self.tells((ROW[0][0],), tops_of, ROW, whole_of(ROW))
        self.tells(whole_of(WIDE), tops_of, WIDE, whole_of(WIDE))

    def test_as_plainly(self):
        chance = Chance(31)
        for _ in range(60):
            web = made_web(chance, chance.below(12))
            lots = tuple(made_lot(chance, web) for _ in range(1 + chance.below(4)))
            for lot in lots:
                self.whether(True, is_lot, web, lot)
                known = {below for name, knows, _ in web if name in lot for below in knows}
                tops = tuple(name for name in lot if name not in known)
                self.tells(tops, tops_of, web, lot)
                self.tells(lot, least_lot, web, tuple(chance.mixed(tops + lot[:2])))
            self.tells(lot_of(*{name for lot in lots for name in lot}), together, web, lots)
            self.tells(tuple(name for name in lots[0] if all(name in lot for lot in lots)), common, web, lots)

    def test_together_and_common(self):
        left, right = lot_of(FIRST, LEFT), lot_of(FIRST, RIGHT, ELSEWHERE)
        self.tells(lot_of(FIRST, LEFT, RIGHT, ELSEWHERE), together, SMALL, (left, right))
        self.tells((FIRST,), common, SMALL, (left, right))
        self.tells((FIRST,), common, SMALL, (left, right, WHOLE, left))
        for lot in ((), left, WHOLE):
            self.tells(lot, together, SMALL, (lot,))
            self.tells(lot, common, SMALL, (lot,))
            self.tells(lot, together, SMALL, (lot, ()))
            self.tells(lot, together, SMALL, (lot, lot, lot))
            self.tells(lot, common, SMALL, (lot, lot, lot))
            self.tells((), common, SMALL, (lot, ()))
            self.tells((), common, SMALL, ((), lot))
        self.tells((), together, (), ((),))
        self.tells((), common, (), ((), ()))


class Seen(Case):
    def test_by_hand(self):
        self.tells((), seen, SMALL, ())
        self.tells((), seen, (), ("a",))
        self.tells(SMALL, seen, SMALL, ("a", "b"))
        self.tells(((ELSEWHERE, (), ("writes", ((("table", "b"), True),))),), seen, SMALL, ("b", "c"))
        alone = seen(SMALL, ("a",))
        self.assertEqual(dict((name, knows) for name, knows, _ in alone)[MERGED], lot_of(FIRST, LEFT, RIGHT, STRIKE))
        self.tells(tuple(name for name in WHOLE if name[0] == "a"), lot_seen, SMALL, WHOLE, ("a",))
        self.tells((ELSEWHERE,), lot_seen, SMALL, lot_of(FIRST, ELSEWHERE), ("b",))
        self.tells((), lot_seen, SMALL, WHOLE, ())
        self.tells((), lot_seen, SMALL, (), ("a", "b"))
        self.tells((), lot_seen, SMALL, WHOLE, ("c", "d"))

    def test_a_web_and_a_lot_of_it(self):
        chance = Chance(32)
        for _ in range(60):
            web = made_web(chance, 10, ("a", "b", "c"))
            lot = made_lot(chance, web)
            for tables in [(), ("a",), ("b",), ("a", "b"), ("a", "c"), ("a", "b", "c"), ("a", "d")]:
                wanted = tuple((name, tuple(below for below in knows if below[0] in tables), what)
                               for name, knows, what in web if name[0] in tables)
                self.tells(wanted, seen, web, tables)
                self.whether(True, is_web, wanted)
                cut = tuple(name for name in lot if name[0] in tables)
                self.tells(cut, lot_seen, web, lot, tables)
                self.whether(True, is_lot, wanted, cut)


class Refused(Case):
    def test_no_web(self):
        for thing in WRONG_WEBS:
            self.refused(NoWeb, whole_of, thing)
            for other in ((), None):
                self.refused(NoWeb, is_lot, thing, other)
                self.refused(NoWeb, least_lot, thing, other)
                self.refused(NoWeb, tops_of, thing, other)
                self.refused(NoWeb, together, thing, other)
                self.refused(NoWeb, common, thing, other)
                self.refused(NoWeb, seen, thing, other)
                self.refused(NoWeb, lot_seen, thing, other, other)

    def test_no_lot(self):
        for thing in WRONG_LOTS:
            self.refused(NoLot, tops_of, SMALL, thing)
            self.refused(NoLot, lot_seen, SMALL, thing, ("a",))
            self.refused(NoLot, lot_seen, SMALL, thing, None)
            for function in (together, common):
                self.refused(NoLot, function, SMALL, (thing,))
                self.refused(NoLot, function, SMALL, (WHOLE, thing))
                self.refused(NoLot, function, SMALL, (thing, WHOLE))
                self.refused(NoLot, function, SMALL, ((), thing, ()))

    def test_no_row_of_lots(self):
        for function in (together, common):
            for thing in [(), [()], [WHOLE], {(): ()}, None, 0, True, "a", {}, [], WHOLE]:
                self.refused(NoLot, function, SMALL, thing)
            for thing in ANYTHING:
                if not (isinstance(thing, tuple) and thing and all(plain.lot(SMALL, lot) for lot in thing)):
                    self.refused(NoLot, function, SMALL, thing)

    def test_least_lot_of_no_row(self):
        for thing in [thing for thing in ANYTHING if not isinstance(thing, tuple)] + [[FIRST], {FIRST: True}]:
            self.refused(NoLot, least_lot, SMALL, thing)
            self.refused(NoLot, least_lot, (), thing)

    def test_least_lot_lacking_the_first(self):
        for name in [*NO_NAMES, STRANGE]:
            self.lacks(Lacking, name, least_lot, SMALL, (name,))
            self.lacks(Lacking, name, least_lot, SMALL, (MERGED, FIRST, name))
            self.lacks(Lacking, name, least_lot, SMALL, (name, STRANGE, FIRST))
            self.lacks(Lacking, name, least_lot, SMALL, (FIRST, name, STRANGE, None))
            self.lacks(Lacking, name, least_lot, (), (name, FIRST))
        self.lacks(Lacking, TRUE_ONE, least_lot, BEHIND, (BEHIND[1][0], TRUE_ONE))

    def test_no_tables(self):
        for thing in NO_TABLES:
            for web in (SMALL, ()):
                self.refused(NoName, seen, web, thing)
                self.refused(NoName, lot_seen, web, (), thing)
            self.refused(NoName, lot_seen, SMALL, WHOLE, thing)


if __name__ == "__main__":
    unittest.main()
