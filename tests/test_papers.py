"""Stage 3, promises 4 to 8: orders to a last, papers of why a reading is as it is, and where orders end."""

import unittest

from forkrolls.errors import Lacking, NoLot, NoPlace, NoWeb
from forkrolls.readings.lasts import clashes, lasts, reading
from forkrolls.readings.papers import order_to, shows_why, why
from forkrolls.webs.orders import order_of
from tests import plain
from tests.knots import (
    AFAR, ALIKE, BACK, BASE, CELL, ELSE, FAR, GONE, LEFT, MERGED, PLACES, RIGHT, ROW, STORY, STRUCK, TABLE,
    WRONG_PLACES, apart, cell, knotted, lot_of, one_of, ring, row_beside, whole)
from tests.looms import (
    NO_NAMES, SMALL, WHOLE, WRONG_LOTS, WRONG_WEBS, in_a_row, made_lot, numbered, stacked, web_of)
from tests.things import ANYTHING, Case, Chance, bent


class OrderTo(Case):
    def comes_last(self, web, lot, place, name):
        """The name behind all others that write the place, in what is an order."""
        order = self.told(order_to, web, lot, place, name)
        self.assertTrue(plain.order(web, lot, order))
        there = plain.written_at(web, lot, place)
        self.assertEqual([each for each in order if each in there][-1], name)
        self.assertEqual(dict(plain.state_by(web, order)).get(place), there[name])

    def test_by_hand(self):
        for place in (CELL, ROW, ELSE, FAR, TABLE):
            for name in lasts(STORY, whole(STORY), place):
                self.comes_last(STORY, whole(STORY), place, name)
        self.tells((BASE,), order_to, STORY, (BASE,), CELL, BASE)
        self.tells((BASE, GONE, LEFT), order_to, STORY, lot_of(BASE, LEFT, GONE), CELL, LEFT)
        self.tells((BASE, LEFT, GONE), order_to, STORY, lot_of(BASE, LEFT, GONE), CELL, GONE)

    def test_those_that_know_it_and_write_elsewhere(self):
        web = web_of((one_of(0), (), ("writes", ((CELL, 0),))), (one_of(1), (one_of(0),), ("writes", ((ROW, True),))),
                     (one_of(2), (), ("writes", ((CELL, 2),))))
        self.tells((one_of(2), one_of(0), one_of(1)), order_to, web, whole(web), CELL, one_of(0))
        self.comes_last(web, whole(web), CELL, one_of(2))

    def test_as_plainly(self):
        chance = Chance(71)
        for _ in range(60):
            web = knotted(chance, chance.below(8), PLACES, 4, 2 + chance.below(4))
            for lot in (whole(web), made_lot(chance, web)):
                for place in plain.places(web, lot):
                    for name in plain.lasts(web, lot, place):
                        self.comes_last(web, lot, place, name)

    def test_great_lots(self):
        web = apart(120)
        for name in (one_of(0), one_of(60), one_of(119)):
            self.assertEqual(self.told(order_to, web, whole(web), cell(0), name)[-1], name)
        web = stacked(in_a_row(120))
        self.tells(tuple(numbered(at) for at in range(120)), order_to, web, whole(web), TABLE, numbered(119))

    def test_no_last_there(self):
        lot = lot_of(BASE, LEFT, GONE, STRUCK, RIGHT, AFAR)
        for name in (BASE, LEFT, STRUCK, ALIKE, MERGED, AFAR, ("a", 1, "nowhere", 1), *NO_NAMES):
            self.lacks(Lacking, name, order_to, STORY, lot, CELL, name)
        for name in (("a", 0, "fourth", True), ("a", False, "fourth", 4), list(GONE), GONE + (0,), (GONE,)):
            self.lacks(Lacking, name, order_to, STORY, lot, CELL, name)
        for name in lot:
            self.lacks(Lacking, name, order_to, STORY, lot, ELSE, name)
            self.lacks(Lacking, name, order_to, STORY, (), CELL, name)
        self.lacks(Lacking, LEFT, order_to, STORY, lot_of(BASE, LEFT, STRUCK, BACK, GONE), FAR, LEFT)


class Why(Case):
    def test_agreed(self):
        for names, place, wanted in [
                ([], CELL, ("agreed", None, ())), ([BASE], CELL, ("agreed", 0, ())),
                ([BASE], TABLE, ("agreed", True, ())), ([BASE], ELSE, ("agreed", None, ())),
                ([BASE, ALIKE], ELSE, ("agreed", None, ())),
                ([BASE, LEFT], CELL, ("agreed", 1, ((BASE, LEFT),))), ([BASE, LEFT], ROW, ("agreed", True, ())),
                ([BASE, GONE], ROW, ("agreed", None, ((BASE, GONE),))),
                ([BASE, LEFT, STRUCK], CELL, ("agreed", 0, ())),
                ([BASE, LEFT, STRUCK, BACK], CELL, ("agreed", 1, ((BASE, LEFT),)))]:
            self.tells(wanted, why, STORY, lot_of(*names), place)
            self.whether(True, shows_why, STORY, lot_of(*names), place, wanted)
        merged = lot_of(BASE, LEFT, STRUCK, BACK, RIGHT, AFAR, MERGED)
        self.tells(("agreed", 2, ((LEFT, MERGED), (RIGHT, MERGED), (BASE, MERGED))), why, STORY, merged, CELL)
        self.tells(("agreed", None, ()), why, (), (), CELL)

    def test_clash(self):
        for names, place in [([LEFT, RIGHT, AFAR], CELL), ([LEFT, GONE], CELL), ([LEFT, GONE], ROW),
                             ([LEFT, ALIKE, GONE, RIGHT, AFAR], CELL), ([GONE, LEFT, STRUCK, BACK, ALIKE], CELL)]:
            lot = lot_of(BASE, *names)
            paper = self.told(why, STORY, lot, place)
            self.assertEqual(paper[0], "clash")
            self.assertTrue(plain.why(STORY, lot, place, paper))
            self.whether(True, shows_why, STORY, lot, place, paper)

    def test_as_plainly(self):
        chance = Chance(72)
        for _ in range(60):
            web = knotted(chance, chance.below(8), PLACES, 4, 2 + chance.below(4))
            for lot in (whole(web), made_lot(chance, web)):
                for place in plain.places(web, whole(web)) + [("row", "a", 77)]:
                    paper = self.told(why, web, lot, place)
                    self.assertTrue(plain.why(web, lot, place, paper))
                    self.whether(True, shows_why, web, lot, place, paper)
                    self.assertEqual(paper[0] == "clash", len(plain.reading(web, lot, place)) > 1)
                    if paper[0] == "agreed":
                        self.tells(plain.reading(web, lot, place) or (None,), lambda row: (row[1],), paper)

    def test_great_lots(self):
        web = stacked(in_a_row(150))
        rows = tuple((numbered(at), numbered(149)) for at in range(149, -1, -1) if at % 3 == 0)
        self.tells(("agreed", None, rows), why, web, whole(web), TABLE)
        self.whether(True, shows_why, web, whole(web), TABLE, ("agreed", None, rows))
        self.whether(False, shows_why, web, whole(web), TABLE, ("agreed", None, rows[1:]))
        for web in (apart(150), row_beside(150)):
            paper = self.told(why, web, whole(web), cell(0))
            self.assertEqual(paper[0], "clash")
            self.whether(True, shows_why, web, whole(web), cell(0), paper)
            self.whether(False, shows_why, web, whole(web), cell(0), ("clash", paper[1], paper[1]))

    def test_another_web_asked_between(self):
        lot = lot_of(BASE, LEFT)
        other = web_of((BASE, (), ("writes", ((CELL, 9),))), (LEFT, (BASE,), ("writes", ((ROW, True),))))
        for _ in range(2):
            self.tells(("agreed", 1, ((BASE, LEFT),)), why, STORY, lot, CELL)
            self.tells(("agreed", 9, ()), why, other, lot, CELL)
            self.whether(False, shows_why, STORY, lot, CELL, ("agreed", 9, ()))
            self.whether(True, shows_why, other, lot, CELL, ("agreed", 9, ()))


class ShowsWhy(Case):
    def alike(self, web, lot, place, thing):
        self.whether(plain.why(web, lot, place, thing), shows_why, web, lot, place, thing)

    def test_what_is_told_bent(self):
        for names, place in [([BASE, LEFT, GONE], CELL), ([BASE, GONE, ALIKE], ELSE), ([BASE, LEFT, STRUCK], CELL),
                             ([BASE, LEFT, RIGHT, AFAR, STRUCK, MERGED], CELL), ([BASE], TABLE), ([BASE, GONE], ROW)]:
            lot = lot_of(*names)
            for thing in bent(why(STORY, lot, place)):
                self.alike(STORY, lot, place, thing)

    def test_anything(self):
        for lot in ((), lot_of(BASE, LEFT), lot_of(BASE, LEFT, GONE)):
            for thing in ANYTHING:
                for each in (thing, ("agreed", thing, ()), ("agreed", thing, ((BASE, LEFT),)), ("agreed", 1, thing),
                             ("agreed", 1, (thing,)), ("clash", thing, thing), (thing, 1, ((BASE, LEFT),)),
                             ("clash", order_of(STORY, lot), thing), ("agreed", 1, ((thing, LEFT),)),
                             ("agreed", 1, ((BASE, thing),)), (thing, thing, thing)):
                    self.alike(STORY, lot, CELL, each)

    def agreed(self, wanted, value, *rows):
        """Of a lot of six behind one another, three of which write 7 at the cell."""
        web = web_of(*((one_of(at), [one_of(low) for low in range(at)], ("writes", ((CELL, each),)))
                       for at, each in enumerate([7, 0, 7, 1, None, 7])),
                     (("a", 0, "far", 0), (), ("writes", ((ROW, True),))))
        self.whether(wanted, shows_why, web, whole(web), CELL, ("agreed", value, rows))
        self.alike(web, whole(web), CELL, ("agreed", value, rows))

    def test_other_writers_that_know(self):
        low, middle, none, high = one_of(1), one_of(3), one_of(4), one_of(5)
        far = ("a", 0, "far", 0)
        self.agreed(True, 7, (none, high), (middle, high), (low, high))
        self.agreed(True, 7, (none, high), (middle, high), (low, one_of(2)))
        self.agreed(True, 7, (none, high), (middle, none), (low, middle))
        self.agreed(False, 7, (none, high), (middle, high), (low, one_of(0)))
        self.agreed(False, 7, (none, high), (middle, one_of(2)), (low, high))
        self.agreed(False, 7, (none, none), (middle, high), (low, high))
        self.agreed(False, 7, (none, far), (middle, high), (low, high))
        self.agreed(False, 7, (middle, high), (low, high))
        self.agreed(False, 7, (low, high), (middle, high), (none, high))
        self.agreed(False, 7, (none, high), (middle, high), (middle, none), (low, high))
        self.agreed(False, 7, (none, high), (middle, high), (low, high), (low, high))
        self.agreed(False, 7, (none, high), (middle, high), (one_of(2), high), (low, high))
        self.agreed(False, 7, (none, high), (middle, high), (low, high), (one_of(0), high))
        self.agreed(False, None, (none, high), (middle, high), (low, high))
        self.agreed(False, 0, (high, high), (none, high), (middle, high), (one_of(2), high), (one_of(0), high))
        self.agreed(False, 8, (none, high), (middle, high), (low, high))

    def test_truths(self):
        lot = lot_of(BASE, LEFT)
        for value in (True, 1, "1", (1,), [1], None):
            wanted = value == 1 and value is not True
            self.whether(wanted, shows_why, STORY, lot, CELL, ("agreed", value, ((BASE, LEFT),)))
        for value in (True, 1, None, False):
            self.whether(value is True, shows_why, STORY, lot, ROW, ("agreed", value, ()))
        self.whether(False, shows_why, STORY, (BASE,), CELL, ("agreed", False, ()))
        true = ("a", True, "left", 0)
        self.whether(False, shows_why, STORY, lot, CELL, ("agreed", 1, ((BASE, true),)))
        self.whether(False, shows_why, STORY, lot, CELL, ("agreed", 1, ((BASE, ("a", 1, "left", False)),)))
        alone = ((LEFT, (), ("writes", ((CELL, 0),))), (RIGHT, (LEFT,), ("writes", ((CELL, 1),))))
        self.whether(True, shows_why, alone, whole(alone), CELL, ("agreed", 1, ((LEFT, RIGHT),)))
        self.whether(False, shows_why, alone, whole(alone), CELL, ("agreed", 1, ((true, RIGHT),)))

    def test_a_struck_writer_is_no_writer(self):
        lot = lot_of(BASE, LEFT, STRUCK)
        self.whether(True, shows_why, STORY, lot, CELL, ("agreed", 0, ()))
        self.whether(False, shows_why, STORY, lot, CELL, ("agreed", 0, ((LEFT, LEFT),)))
        self.whether(False, shows_why, STORY, lot, CELL, ("agreed", 1, ((BASE, LEFT),)))
        self.whether(False, shows_why, STORY, lot, CELL, ("agreed", None, ((BASE, LEFT),)))

    def test_orders(self):
        lot = lot_of(BASE, LEFT, GONE)
        one, other = (BASE, GONE, LEFT), (BASE, LEFT, GONE)
        for orders, wanted in [((one, other), True), ((other, one), True), ((one, one), False), ((other, other), False),
                               ((one, (LEFT, BASE, GONE)), False), ((one, (BASE, LEFT)), False),
                               ((one, other + other), False), ((one, list(other)), False), (((one, other), ()), False),
                               ((list(one), other), False)]:
            self.whether(wanted, shows_why, STORY, lot, CELL, ("clash", *orders))
        self.whether(False, shows_why, STORY, lot, CELL, ["clash", one, other])
        self.whether(False, shows_why, STORY, lot, CELL, ("agreed", one, other))
        self.whether(False, shows_why, STORY, lot, CELL, ("Clash", one, other))
        self.whether(False, shows_why, STORY, lot, CELL, ("clash", one, other, ()))
        self.whether(False, shows_why, STORY, lot, TABLE, ("clash", one, other))
        alike = lot_of(BASE, LEFT, ALIKE)
        self.whether(False, shows_why, STORY, alike, CELL, ("clash", (BASE, ALIKE, LEFT), (BASE, LEFT, ALIKE)))
        more = lot_of(BASE, LEFT, ALIKE, GONE)
        for one, other, wanted in [((BASE, GONE, ALIKE, LEFT), (BASE, GONE, LEFT, ALIKE), False),
                                   ((BASE, GONE, ALIKE, LEFT), (BASE, ALIKE, LEFT, GONE), True),
                                   ((BASE, LEFT, ALIKE, GONE), (BASE, ALIKE, LEFT, GONE), False)]:
            self.whether(wanted, shows_why, STORY, more, CELL, ("clash", one, other))

    def test_nothing_where_none_is_written(self):
        web = web_of((LEFT, (), ("writes", ((CELL, None),))), (RIGHT, (), ("writes", ((CELL, None),))))
        self.tells(("agreed", None, ()), why, web, whole(web), CELL)
        self.whether(False, shows_why, web, whole(web), CELL, ("clash", (LEFT, RIGHT), (RIGHT, LEFT)))
        self.whether(False, shows_why, web, whole(web), CELL, ("agreed", 0, ()))


class Ends(Case):
    def test_by_all_orders(self):
        chance = Chance(73)
        for _ in range(60):
            web = knotted(chance, chance.below(7), PLACES, 4, 2 + chance.below(4))
            for lot in (whole(web), made_lot(chance, web)):
                states = [dict(state) for state in plain.ends(web, lot)]
                for place in plain.places(web, whole(web)):
                    read = reading(web, lot, place)
                    ended = {repr(state.get(place)) for state in states}
                    self.assertEqual(ended, {repr(value) for value in read or (None,)})
                    self.assertEqual(place in clashes(web, lot), len(ended) > 1)
                    for value in read:
                        self.some_last_brings(web, lot, place, value)

    def some_last_brings(self, web, lot, place, value):
        names = [name for name in lasts(web, lot, place)
                 if plain.written_at(web, lot, place)[name] == value]
        self.assertTrue(names)
        for name in names:
            order = order_to(web, lot, place, name)
            self.assertEqual(repr(dict(plain.state_by(web, order)).get(place)), repr(value))

    def test_rings(self):
        for many in range(2, 6):
            web = ring(many)
            for at in range(many):
                self.tells((min(at, (at - 1) % many), max(at, (at - 1) % many)), reading, web, whole(web), cell(at))
                for name in lasts(web, whole(web), cell(at)):
                    order = order_to(web, whole(web), cell(at), name)
                    self.assertEqual(dict(plain.state_by(web, order))[cell(at)], 1000 - name[3])

    def test_alike_ones_among_them(self):
        values = ["x", "y", "x", None, "y", "x"]
        web = web_of(*((one_of(at), (), ("writes", ((CELL, value),))) for at, value in enumerate(values)))
        self.tells(("x", "y", None), reading, web, whole(web), CELL)
        for value in ("x", "y", None):
            self.some_last_brings(web, whole(web), CELL, value)
        for order in (why(web, whole(web), CELL)[1:]):
            self.assertTrue(plain.order(web, whole(web), order))


class Refused(Case):
    def test_each(self):
        wrong = (NoWeb, WRONG_WEBS), (NoLot, WRONG_LOTS), (NoPlace, WRONG_PLACES)
        self.refuses_each(why, (SMALL, WHOLE, CELL), *wrong)
        self.refuses_each(shows_why, (SMALL, WHOLE, CELL, ("agreed", "word", ())), *wrong)
        self.refuses_each(order_to, (SMALL, WHOLE, ("table", "b"), ("b", 0, "main", 0)), *wrong)


if __name__ == "__main__":
    unittest.main()
