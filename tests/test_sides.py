"""Stage 5, promises 9 and 10: sides of two lots, and what is read of both together."""

import unittest

from forkrolls.errors import NoLot, NoWeb
from forkrolls.merges.sides import sides
from tests import plain
from tests.knots import (
    AFAR, ALIKE, BACK, BASE, CELL, ELSE, FAR, GONE, LEFT, PLACES, RIGHT, ROW, STORY, STRUCK, TABLE, knotted, lot_of,
    whole)
from tests.looms import SMALL, WHOLE, WRONG_LOTS, WRONG_WEBS, made_lot
from tests.shops import lots_of, parted, wovens
from tests.test_changes import all_places, plain_touched
from tests.things import Case, Chance

EXCHANGED = {"one": "other", "other": "one", "both": "both"}


class Sides(Case):
    def just(self, rows, web, one, other):
        self.tells(rows, sides, web, one, other)
        self.tells(tuple((place, EXCHANGED[side], read) for place, side, read in rows), sides, web, other, one)

    def plainly(self, web, one, other):
        shared = tuple(name for name in one if name in other)
        both = tuple(sorted({*one, *other}))
        ones, others = plain_touched(web, one, shared), plain_touched(web, other, shared)
        rows = []
        for place in all_places(web):
            read = plain.reading(web, both, place)
            side = "both" if place in ones and place in others else "one" if place in ones else "other"
            if place in ones or place in others:
                rows.append((place, side, read))
            # What [27] says comes of it:
            if side == "one" and place in ones:
                self.assertEqual(repr(read), repr(plain.reading(web, one, place)))
            elif place in others and side == "other":
                self.assertEqual(repr(read), repr(plain.reading(web, other, place)))
            elif place not in ones:
                self.assertEqual(repr(read), repr(plain.reading(web, shared, place)))
        self.just(tuple(rows), web, one, other)
        return {side for _, side, _ in rows}

    def test_by_hand(self):
        base = lot_of(BASE)
        self.just((), STORY, base, base)
        self.just((), STORY, (), ())
        self.just((), STORY, whole(STORY), whole(STORY))
        self.just(((CELL, "one", (1,)), (ROW, "one", (True,))), STORY, lot_of(BASE, LEFT), base)
        self.just(((CELL, "both", (1, None)), (ROW, "both", (None, True))), STORY, lot_of(BASE, LEFT),
                  lot_of(BASE, GONE))
        self.just(((CELL, "one", (0,)), (ROW, "one", (True,)), (TABLE, "one", (True,))), STORY, base, ())
        self.just(((CELL, "one", (0,)), (FAR, "other", (7,)), (ROW, "one", (True,)), (TABLE, "one", (True,)),
                   (("table", "b"), "other", (True,))), STORY, base, lot_of(AFAR))

    def test_read_alike(self):
        # Both write the cell alike, one takes out what the other never had.
        self.just(((CELL, "both", (1,)), (ELSE, "other", (None,)), (ROW, "one", (True,))), STORY, lot_of(BASE, LEFT),
                  lot_of(BASE, ALIKE))

    def test_touched_for_nothing(self):
        self.just(((CELL, "one", (0,)), (ROW, "one", (True,))), STORY, lot_of(BASE, LEFT, STRUCK), lot_of(BASE))
        self.just(((CELL, "one", (0,)), (ROW, "one", (True,))), STORY, lot_of(BASE, LEFT, STRUCK), lot_of(BASE, LEFT))
        self.just(((CELL, "one", (1,)), (ROW, "one", (True,))), STORY, lot_of(BASE, LEFT, STRUCK, BACK),
                  lot_of(BASE, LEFT, STRUCK))
        # The one has the deed alone, the other has it struck: together it is struck.
        self.just(((CELL, "both", ("one",)), (FAR, "other", (7,)), (ROW, "one", (True,)),
                   (("table", "b"), "other", (True,))), STORY, lot_of(BASE, LEFT, STRUCK),
                  lot_of(BASE, RIGHT, AFAR, LEFT))

    def test_much_and_little_shared(self):
        weaver = parted()
        found = set()
        lots = lots_of(weaver)
        for one in lots:
            for other in lots:
                found |= self.plainly(weaver.web, one, other)
        self.assertEqual(sorted(found), ["both", "one", "other"])

    def test_as_plainly(self):
        chance = Chance(181)
        for _ in range(60):
            web = knotted(chance, chance.below(12), chance.mixed(PLACES)[:4], 3, 2)
            lots = [whole(web), made_lot(chance, web), made_lot(chance, web)]
            for one, other in ((lots[0], lots[1]), (lots[1], lots[2]), (lots[2], lots[2]), (lots[1], ())):
                self.plainly(web, one, other)
        for weaver in wovens(182, 10, 10):
            lots = lots_of(weaver)
            for one, other in zip(lots, lots[1:]):
                self.plainly(weaver.web, one, other)

    def test_refused(self):
        self.refuses_each(sides, (SMALL, WHOLE, ()), (NoWeb, WRONG_WEBS), (NoLot, WRONG_LOTS), (NoLot, WRONG_LOTS))


if __name__ == "__main__":
    unittest.main()
