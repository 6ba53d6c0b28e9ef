"""Stage 3, promises 1 to 3, and 7 of these: lasts, readings, clashes."""

import unittest

from forkrolls.errors import NoLot, NoPlace, NoWeb
from forkrolls.readings.lasts import clashes, lasts, reading
from tests import plain
from tests.knots import (
    AFAR, ALIKE, BACK, BASE, CELL, ELSE, FAR, GONE, LEFT, MERGED, PLACES, RIGHT, ROW, STORY, STRUCK, TABLE,
    WRITTEN, WRONG_PLACES, apart, cell, knotted, lot_of, one_of, ring, row_beside, whole, writers_of)
from tests.looms import SMALL, WHOLE, WRONG_LOTS, WRONG_WEBS, in_a_row, made_lot, made_web, numbered, stacked, web_of
from tests.things import Case, Chance


class Lasts(Case):
    def at(self, names, place, last, read):
        """In the lot of STORY with these names."""
        lot = lot_of(*names)
        self.tells(tuple(sorted(last)), lasts, STORY, lot, place)
        self.tells(read, reading, STORY, lot, place)
        self.assertEqual(place in clashes(STORY, lot), len(read) > 1)

    def test_none(self):
        for web, lot in (((), ()), (STORY, ())):
            for place in (CELL, ROW, FAR, *PLACES):
                self.tells((), lasts, web, lot, place)
                self.tells((), reading, web, lot, place)
            self.tells((), clashes, web, lot)

    def test_one_branch(self):
        self.at([BASE], CELL, [BASE], (0,))
        self.at([BASE], ROW, [BASE], (True,))
        self.at([BASE], ELSE, [], ())
        self.at([BASE, LEFT], CELL, [LEFT], (1,))
        self.at([BASE, ALIKE], ELSE, [ALIKE], (None,))
        self.at([BASE, GONE], CELL, [GONE], (None,))

    def test_branches_together(self):
        self.at([BASE, LEFT, ALIKE], CELL, [LEFT, ALIKE], (1,))
        self.at([BASE, LEFT, ALIKE, GONE], CELL, [LEFT, ALIKE, GONE], (1, None))
        self.at([BASE, LEFT, ALIKE, GONE, RIGHT, AFAR], CELL, [LEFT, ALIKE, GONE, RIGHT], ("one", 1, None))
        self.at([BASE, LEFT, GONE], ROW, [LEFT, GONE], (None, True))
        self.at([BASE, LEFT, GONE], TABLE, [BASE], (True,))

    def test_strikes(self):
        self.at([BASE, LEFT, STRUCK], CELL, [BASE], (0,))
        self.at([BASE, LEFT, STRUCK, GONE], CELL, [GONE], (None,))
        self.at([BASE, LEFT, STRUCK, BACK], CELL, [LEFT], (1,))
        self.at([BASE, LEFT, STRUCK, BACK, GONE], CELL, [LEFT, GONE], (1, None))

    def test_merges(self):
        merged = [BASE, LEFT, RIGHT, AFAR, STRUCK, MERGED]
        self.at(merged, CELL, [MERGED], (2,))
        self.at([*merged, BACK], CELL, [MERGED], (2,))
        self.at([*merged, GONE], CELL, [MERGED, GONE], (2, None))
        self.at([*merged, ALIKE], ELSE, [MERGED, ALIKE], ("none", None))
        self.at(merged, ROW, [BASE], (True,))
        self.at(merged, FAR, [AFAR], (7,))

    def test_only_struck_deeds_write(self):
        strike = ("a", 5, "s", 0)
        web = web_of((LEFT, (), ("writes", ((CELL, 1),))), (strike, (LEFT,), ("strike", LEFT)))
        self.tells((), lasts, web, whole(web), CELL)
        self.tells((), reading, web, whole(web), CELL)
        self.tells((), clashes, web, whole(web))

    def test_what_is_known_through_a_struck_deed(self):
        # The middle one is struck, but who knows it knows the first one still.
        first, middle, last, strike = (("a", 0, "x", at) for at in (7, 8, 5, 6))
        web = web_of((first, (), ("writes", ((CELL, 1),))), (middle, (first,), ("writes", ((CELL, 2),))),
                     (last, (first, middle), ("writes", ((CELL, 3),))), (strike, (first, middle), ("strike", middle)))
        self.tells((last,), lasts, web, whole(web), CELL)

    def test_known_by_one_who_writes_elsewhere(self):
        web = web_of((LEFT, (), ("writes", ((CELL, 1),))), (RIGHT, (LEFT,), ("writes", ((ROW, True),))),
                     (GONE, (LEFT, RIGHT), ("strike", RIGHT)))
        self.tells((LEFT,), lasts, web, whole(web), CELL)
        self.tells((), lasts, web, whole(web), ROW)

    def test_as_written(self):
        for place, values in WRITTEN.items():
            names = [(place[1], 0, "x", at) for at in range(len(values))]
            web = web_of(*((name, (), ("writes", ((place, value),))) for name, value in zip(names, values)))
            self.tells(tuple(names), lasts, web, tuple(names), place)
            self.tells(tuple(sorted(values, key=repr)), reading, web, tuple(names), place)
            self.tells((place,), clashes, web, tuple(names))
            for name, value in zip(names, values):
                self.tells((value,), reading, web, (name,), place)

    def test_by_text(self):
        values = [10, 9, -1, -10, "z", "a", 0, None, 100]
        web = web_of(*((one_of(at), (), ("writes", ((CELL, value),))) for at, value in enumerate(values * 2)))
        self.tells(("a", "z", -1, -10, 0, 10, 100, 9, None), reading, web, whole(web), CELL)

    def test_clashes_rise(self):
        web = writers_of(*([0, 1] for _ in range(12)))
        self.tells(tuple(cell(at) for at in range(12)), clashes, web, whole(web))
        web = web_of((LEFT, (), ("writes", tuple(sorted([(CELL, 1), (ELSE, 1), (ROW, True)])))),
                     (RIGHT, (), ("writes", tuple(sorted([(CELL, 2), (ELSE, 1), (ROW, None)])))))
        self.tells((CELL, ROW), clashes, web, whole(web))

    def test_as_plainly(self):
        chance = Chance(61)
        webs = [knotted(chance, chance.below(8), PLACES, 4, 2 + chance.below(4)) for _ in range(60)]
        for web in [*webs, *(made_web(chance, 6) for _ in range(10))]:
            for lot in (whole(web), made_lot(chance, web)):
                for place in plain.places(web, whole(web)) + [("row", "a", 77)]:
                    self.tells(plain.lasts(web, lot, place), lasts, web, lot, place)
                    self.tells(plain.reading(web, lot, place), reading, web, lot, place)
                self.tells(plain.clashes(web, lot), clashes, web, lot)

    def test_great_lots(self):
        web = stacked(in_a_row(150))
        self.tells((numbered(149),), lasts, web, whole(web), TABLE)
        self.tells((None,), reading, web, whole(web), TABLE)
        self.tells((numbered(149),), lasts, web, whole(web), ("row", "a", 149))
        self.tells((True,), reading, web, whole(web), ("row", "a", 0))
        self.tells((), clashes, web, whole(web))
        web = apart(300)
        self.tells(whole(web), lasts, web, whole(web), cell(0))
        self.tells(tuple(sorted(range(300), key=repr)), reading, web, whole(web), cell(0))
        web = row_beside(150)
        self.tells(tuple(cell(at) for at in range(150)), clashes, web, whole(web))

    def test_another_web_asked_between(self):
        other = tuple((name, knows, ("writes", ((cell(0), "other"),))) for name, knows, _ in ring(3))
        for _ in range(2):
            self.tells((0, 2), reading, ring(3), whole(ring(3)), cell(0))
            self.tells(("other",), reading, other, whole(other), cell(0))
            self.tells((cell(0), cell(1), cell(2)), clashes, ring(3), whole(ring(3)))
            self.tells((), clashes, other, whole(other))


class Refused(Case):
    def test_each(self):
        wrong = (NoWeb, WRONG_WEBS), (NoLot, WRONG_LOTS)
        self.refuses_each(clashes, (SMALL, WHOLE), *wrong)
        for function in (lasts, reading):
            self.refuses_each(function, (SMALL, WHOLE, CELL), *wrong, (NoPlace, WRONG_PLACES))

    def test_alike_to_a_place(self):
        for place in (("row", "a", True), ("cell", "a", 5, (False, "main", 3)), ["row", "a", 5], ("row", "a", 5, None)):
            self.refused(NoPlace, lasts, STORY, whole(STORY), place)
            self.refused(NoPlace, reading, STORY, whole(STORY), place)


if __name__ == "__main__":
    unittest.main()
