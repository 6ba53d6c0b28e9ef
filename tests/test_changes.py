"""Stage 5, promises 7, 8 and 10: changes, roots, touched places."""

import unittest

from forkrolls.errors import Lacking, NoLot, NoWeb
from forkrolls.merges.changes import changes, root_of, touched
from tests import plain
from tests.knots import (
    AFAR, ALIKE, BACK, BASE, CELL, ELSE, FAR, GONE, LEFT, MERGED, PLACES, RIGHT, ROW, STORY, STRUCK, TABLE, knotted,
    lot_of, whole, written)
from tests.looms import (
    AGAIN, FIRST, NO_NAMES, SMALL, STRANGE, STRIKE, WHOLE, WRONG_LOTS, WRONG_WEBS, made_lot, numbered,
    strikes_of_strikes, web_of)
from tests.shops import LEFT as LEFTS, RIGHT as RIGHTS, X, lots_of, parted, wovens
from tests.things import Case, Chance


def all_places(*webs):
    return sorted({place for web in webs for _, _, what in web if what[0] == "writes" for place, _ in what[1]})


def plain_changes(web, one, other):
    rows = [(place, plain.reading(web, one, place), plain.reading(web, other, place)) for place in all_places(web)]
    return tuple(row for row in rows if repr(row[1]) != repr(row[2]))


def plain_root(web, name):
    word, part = dict((each, what) for each, _, what in web)[name]
    return name if word == "writes" else plain_root(web, part)


def plain_touched(web, lot, within):
    whats = {name: what for name, _, what in web}
    return tuple(sorted({place for name in lot if name not in within
                         for place, _ in whats[plain_root(web, name)][1]}))


class Changes(Case):
    def just(self, rows, web, one, other):
        self.tells(rows, changes, web, one, other)
        self.tells(tuple((place, second, first) for place, first, second in rows), changes, web, other, one)

    def test_by_hand(self):
        base = lot_of(BASE)
        self.just((), STORY, base, base)
        self.just((), STORY, (), ())
        self.just(((CELL, (0,), (1,)),), STORY, base, lot_of(BASE, LEFT))
        self.just(((CELL, (1,), (None,)), (ROW, (True,), (None,))), STORY, lot_of(BASE, LEFT), lot_of(BASE, GONE))
        self.just(((CELL, (1,), (1, None)), (ROW, (True,), (None, True))), STORY, lot_of(BASE, LEFT),
                  lot_of(BASE, LEFT, GONE))
        self.just(((CELL, (), (0,)), (ROW, (), (True,)), (TABLE, (), (True,))), STORY, (), base)
        self.just((), STORY, base, lot_of(BASE, LEFT, STRUCK))
        self.just(((CELL, (0,), (1,)),), STORY, base, lot_of(BASE, LEFT, STRUCK, BACK))
        self.just(((FAR, (), (7,)), (("table", "b"), (), (True,))), STORY, base, lot_of(BASE, AFAR))

    def test_none_and_nothing(self):
        self.just(((CELL, (0,), (1,)), (ELSE, (), (None,))), STORY, lot_of(BASE), lot_of(BASE, ALIKE))
        self.just(((ELSE, (None,), ()),), STORY, lot_of(BASE, ALIKE), lot_of(BASE, LEFT))
        web = web_of((numbered(0), (), written((CELL, None))))
        self.just(((CELL, (None,), ()),), web, whole(web), ())
        self.just((), web, whole(web), whole(web))

    def test_alike_by_other_deeds(self):
        self.just(((ELSE, (), (None,)),), STORY, lot_of(BASE, LEFT), lot_of(BASE, ALIKE))
        self.just(((ELSE, (), (None,)),), STORY, lot_of(BASE, LEFT), lot_of(BASE, LEFT, ALIKE))

    def test_branches(self):
        weaver = parted()
        cell = ("cell", "a", 1, X)
        self.just(((cell, (5,), ("five",)), (("cell", "a", 2, X), (None,), (2,)), (("cell", "a", 4, X), (), (4,)),
                   (("row", "a", 2), (None,), (True,)), (("row", "a", 4), (), (True,))), weaver.web,
                  weaver.lots[LEFTS], weaver.lots[RIGHTS])

    def test_as_plainly(self):
        chance = Chance(171)
        for _ in range(60):
            web = knotted(chance, chance.below(10), chance.mixed(PLACES)[:4], 4, 2)
            lots = [whole(web), made_lot(chance, web), made_lot(chance, web)]
            for one, other in ((lots[0], lots[1]), (lots[1], lots[2]), (lots[0], lots[0])):
                self.just(plain_changes(web, one, other), web, one, other)
        for weaver in wovens(172, 12, 10):
            lots = lots_of(weaver)
            for one, other in zip(lots, lots[1:]):
                self.just(plain_changes(weaver.web, one, other), weaver.web, one, other)

    def test_refused(self):
        self.refuses_each(changes, (SMALL, WHOLE, ()), (NoWeb, WRONG_WEBS), (NoLot, WRONG_LOTS), (NoLot, WRONG_LOTS))


class Roots(Case):
    def test_by_hand(self):
        for name, root in [(BASE, BASE), (LEFT, LEFT), (STRUCK, LEFT), (BACK, LEFT), (MERGED, MERGED), (AFAR, AFAR)]:
            self.tells(root, root_of, STORY, name)
        self.assertEqual([root_of(SMALL, name) for name in (STRIKE, AGAIN, FIRST)], [
            ("a", 1, "left", 1), ("a", 1, "left", 1), FIRST])

    def test_strikes_of_strikes(self):
        web = strikes_of_strikes(150)
        for at in (0, 1, 2, 77, 149):
            self.tells(numbered(0), root_of, web, numbered(at))

    def test_as_plainly(self):
        chance = Chance(173)
        for _ in range(60):
            web = knotted(chance, chance.below(12), chance.mixed(PLACES)[:3], 2, 2)
            for name in whole(web):
                self.tells(plain_root(web, name), root_of, web, name)

    def test_refused(self):
        self.refuses_each(root_of, (SMALL, FIRST), (NoWeb, WRONG_WEBS))
        for thing in [*NO_NAMES, STRANGE]:
            self.lacks(Lacking, thing, root_of, SMALL, thing)
            self.lacks(Lacking, thing, root_of, (), thing)
        self.lacks(Lacking, FIRST, root_of, (), FIRST)


class Touched(Case):
    def test_by_hand(self):
        base, left = lot_of(BASE), lot_of(BASE, LEFT)
        self.tells((CELL, ROW, TABLE), touched, STORY, base, ())
        self.tells((), touched, STORY, base, base)
        self.tells((), touched, STORY, (), ())
        self.tells((CELL, ROW), touched, STORY, left, base)
        self.tells((CELL, ROW, TABLE), touched, STORY, left, ())
        self.tells((CELL, ROW), touched, STORY, lot_of(BASE, LEFT, STRUCK), left)
        self.tells((CELL, ROW), touched, STORY, lot_of(BASE, LEFT, STRUCK, BACK), lot_of(BASE, LEFT, STRUCK))
        self.tells((CELL, ROW), touched, STORY, lot_of(BASE, LEFT, STRUCK, BACK), base)
        self.tells((CELL, FAR, ELSE, ("table", "b")), touched, STORY, lot_of(BASE, LEFT, STRUCK, RIGHT, AFAR, MERGED),
                   lot_of(BASE, LEFT, STRUCK))

    def test_strikes_of_strikes(self):
        web = strikes_of_strikes(100)
        lot = whole(web)
        half = tuple(sorted(numbered(at) for at in range(50)))
        self.tells((("row", "a", 0), ("table", "a")), touched, web, lot, half)
        self.tells((), touched, web, lot, lot)

    def test_as_plainly(self):
        chance = Chance(174)
        for _ in range(60):
            web = knotted(chance, chance.below(12), chance.mixed(PLACES)[:4], 3, 2)
            one, other = made_lot(chance, web), made_lot(chance, web)
            shared = tuple(name for name in one if name in other)
            for lot, within in ((one, shared), (other, shared), (whole(web), one), (one, one), (one, ())):
                self.tells(plain_touched(web, lot, within), touched, web, lot, within)

    def test_refused(self):
        wrong = (NoWeb, WRONG_WEBS), (NoLot, WRONG_LOTS), (NoLot, WRONG_LOTS)
        self.refuses_each(touched, (SMALL, WHOLE, ()), *wrong)
        for lot, within in [((), lot_of(BASE)), (lot_of(BASE, LEFT), lot_of(BASE, ALIKE)),
                            (lot_of(BASE), lot_of(AFAR)), (lot_of(BASE, LEFT), whole(STORY))]:
            self.refused(NoLot, touched, STORY, lot, within)


if __name__ == "__main__":
    unittest.main()
