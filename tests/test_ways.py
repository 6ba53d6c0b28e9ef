"""Stage 3, promises 9 to 11, and 14 of these: ways, whether a thing is one, orders by them."""

import itertools
import unittest

from forkrolls.errors import NoLot, NoNumber, NoWay, NoWeb, TooWide
from forkrolls.readings.lasts import clashes, lasts
from forkrolls.worlds import ways
from forkrolls.worlds.ways import is_way, order_by, ways_of
from tests import plain
from tests.knots import (
    ALIKE, BACK, BASE, CELL, ELSE, GONE, LEFT, MERGED, PLACES, ROW, STORY, STRUCK, apart, cell, knotted, lot_of, one_of,
    ring, row_beside, whole, writers_of)
from tests.looms import (
    SMALL, WHOLE, WRONG_LOTS, WRONG_NUMBERS, WRONG_WEBS, beside, in_a_row, made_lot, made_web, stacked,
    strikes_of_strikes, web_of)
from tests.things import ANYTHING, Case, Chance, bent

LOT = lot_of(BASE, LEFT, GONE)
WAYS = (((CELL, GONE), (ROW, GONE)), ((CELL, LEFT), (ROW, LEFT)))


def rows_of(web, lot):
    """Each row of a last for each clashing place, whether an order leads to it or not."""
    places = clashes(web, lot)
    return [tuple(zip(places, names)) for names in itertools.product(*(lasts(web, lot, place) for place in places))]


class Ways(Case):
    def just(self, web, lot, wanted):
        """Told at just as many, too wide at one less."""
        many = len(wanted)
        self.tells(wanted, ways_of, web, lot, most=many)
        self.tells(wanted, ways_of, web, lot, most=10 ** 4)
        if many > 200:
            self.refused(TooWide, ways_of, web, lot)
        else:
            self.tells(wanted, ways_of, web, lot)
        for most in (many - 1, many // 2, 1):
            if 1 <= most < many:
                self.refused(TooWide, ways_of, web, lot, most=most)

    def many(self, web, wanted):
        """So many ways, each of which is one, told at just as many."""
        lot = whole(web)
        found = ways_of(web, lot, most=wanted)
        self.assertEqual((len(found), list(found)), (wanted, sorted(set(found))))
        for way in found[::1 + wanted // 9]:
            self.whether(True, is_way, web, lot, way)
        if wanted > 1:
            self.refused(TooWide, ways_of, web, lot, most=wanted - 1)
        if wanted > 200:
            self.refused(TooWide, ways_of, web, lot)
        else:
            self.assertEqual(ways_of(web, lot), found)

    def test_nothing_clashes(self):
        self.assertEqual(ways.MOST_WAYS, 200)
        for web, lot in [((), ()), (STORY, ()), (STORY, lot_of(BASE)), (STORY, lot_of(BASE, LEFT)),
                         (STORY, lot_of(BASE, LEFT, ALIKE)), (SMALL, WHOLE)]:
            self.just(web, lot, ((),))
            self.whether(True, is_way, web, lot, ())
            self.assertTrue(plain.order(web, lot, self.told(order_by, web, lot, ())))

    def test_by_hand(self):
        self.just(STORY, LOT, WAYS)
        self.just(STORY, lot_of(BASE, LEFT, GONE, STRUCK), ((),))
        self.just(STORY, lot_of(BASE, LEFT, GONE, STRUCK, BACK), WAYS)
        lot = lot_of(BASE, LEFT, GONE, ALIKE)
        self.just(STORY, lot, (
            ((CELL, GONE), (ROW, GONE)), ((CELL, LEFT), (ROW, LEFT)),
            ((CELL, ALIKE), (ROW, GONE)), ((CELL, ALIKE), (ROW, LEFT))))
        self.tells((BASE, LEFT, GONE), order_by, STORY, LOT, WAYS[0])
        self.tells((BASE, GONE, LEFT), order_by, STORY, LOT, WAYS[1])

    def test_as_plainly(self):
        chance = Chance(81)
        for _ in range(90):
            places = chance.mixed(PLACES)[:1 + chance.below(5)]
            web = knotted(chance, chance.below(8), places, 6, 2 + chance.below(4))
            for lot in (whole(web), made_lot(chance, web)):
                wanted = plain.ways(web, lot)
                self.just(web, lot, wanted)
                for row in rows_of(web, lot)[:60]:
                    self.whether(row in wanted, is_way, web, lot, row)
                for way in wanted[:60]:
                    order = self.told(order_by, web, lot, way)
                    self.assertTrue(plain.order(web, lot, order))
                    self.assertEqual(plain.way_by(web, lot, order), way)

    def test_rings(self):
        for count in range(2, 6):
            web = ring(count)
            self.just(web, whole(web), plain.ways(web, whole(web)))
            rows = rows_of(web, whole(web))
            self.assertEqual([row for row in rows if is_way(web, whole(web), row)], list(plain.ways(web, whole(web))))
            # The first writers of all go round, and so do the second ones.
            for step in (0, 1):
                row = tuple((cell(at), one_of((at - step) % count)) for at in range(count))
                self.whether(False, is_way, web, whole(web), row)
                self.refused(NoWay, order_by, web, whole(web), row)
        for count, wanted in [(3, 6), (4, 14), (5, 30), (7, 126), (8, 254)]:
            self.many(ring(count), wanted)

    def test_round_through_what_they_know(self):
        # Each ring has a deed between, that writes elsewhere: the one knows the other through it alone.
        one, two, three, four, between = (("a", 0, "x", at) for at in (9, 8, 7, 6, 5))
        web = web_of((one, (), ("writes", ((cell(0), 1),))), (between, (one,), ("writes", ((ROW, True),))),
                     (two, (one, between), ("writes", ((cell(1), 2),))),
                     (three, (), ("writes", ((cell(0), 3), (cell(1), 3)))))
        wanted = (((cell(0), three), (cell(1), three)), ((cell(0), three), (cell(1), two)),
                  ((cell(0), one), (cell(1), two)))
        self.just(web, whole(web), tuple(sorted(wanted)))
        self.whether(False, is_way, web, whole(web), ((cell(0), one), (cell(1), three)))

    def test_one_to_eight_places(self):
        for heaps, wanted in [((2,), 2), ((6,), 6), ((2, 3), 6), ((5, 5, 4, 2), 200), ((6, 6, 6), 216), ((2,) * 8, 256),
                              ((3, 3, 3, 2, 2, 2), 216), ((5, 5, 2, 2, 2), 200), ((6,) * 5, 7776),
                              ((5, 5, 5, 5, 4, 4), 10 ** 4)]:
            self.many(apart(*heaps), wanted)
        for heaps in ((6,) * 8, (6,) * 6, (5, 5, 5, 5, 4, 4, 2)):
            web = apart(*heaps)
            for most in (1, 200, 9999, 10 ** 4):
                self.refused(TooWide, ways_of, web, whole(web), most=most)

    def test_a_vast_product_few_ways(self):
        web = writers_of(*([0, 1] for _ in range(300)))
        self.many(web, 2)
        web = writers_of(*(range(6) for _ in range(60)))
        self.many(web, 6)
        self.many(row_beside(40), 41)
        self.many(row_beside(199), 200)
        self.refused(TooWide, ways_of, row_beside(200), whole(row_beside(200)))
        self.many(row_beside(200), 201)
        subsets = [some for many in range(2, 6) for some in itertools.combinations(range(5), many)]
        self.many(writers_of(*subsets), 120)

    def test_vast_lots_refused(self):
        everything = [some for many in (2, 3) for some in itertools.combinations(range(20), many)][:400]
        for web in (apart(*[2] * 150), ring(120), apart(300), apart(*[6] * 50), writers_of(*everything)):
            self.refused(TooWide, ways_of, web, whole(web))
            self.refused(TooWide, ways_of, web, whole(web), most=1)
        self.refused(TooWide, ways_of, apart(201), whole(apart(201)))
        self.many(apart(200), 200)

    def test_however_many_ways(self):
        for web in (apart(*[2] * 150), ring(120), apart(*[6] * 50)):
            places = clashes(web, whole(web))
            first = tuple((place, lasts(web, whole(web), place)[0]) for place in places)
            self.whether(True, is_way, web, whole(web), first)
            order = self.told(order_by, web, whole(web), first)
            for place, name in first:
                others = set(lasts(web, whole(web), place)) - {name}
                self.assertTrue(others <= set(order[:order.index(name)]))
        row = tuple((cell(at), one_of(at)) for at in range(120))
        self.whether(False, is_way, ring(120), whole(ring(120)), row)

    def test_all_know_one_another(self):
        for web in (stacked(in_a_row(150)), strikes_of_strikes(151)):
            self.just(web, whole(web), ((),))
        web = stacked(in_a_row(100), beside(3, 200))
        self.many(web, 3)

    def test_asked_between(self):
        other = tuple((name, knows, ("writes", ((cell(0), "other"),))) for name, knows, _ in ring(3))
        wanted = ways_of(ring(3), whole(ring(3)))
        for _ in range(2):
            self.tells(wanted, ways_of, ring(3), whole(ring(3)))
            self.tells(((),), ways_of, other, whole(other))
            self.whether(False, is_way, other, whole(other), wanted[0])
            self.whether(True, is_way, ring(3), whole(ring(3)), wanted[0])


class IsWay(Case):
    def is_such(self, thing):
        wanted = thing in WAYS and repr(thing) in [repr(way) for way in WAYS]
        self.whether(wanted, is_way, STORY, LOT, thing)
        if not wanted:
            self.refused(NoWay, order_by, STORY, LOT, thing)

    def test_anything_and_bent(self):
        for thing in [*ANYTHING, *bent(WAYS[0]), *bent(WAYS[1])]:
            self.is_such(thing)

    def test_rows_that_are_none(self):
        for thing in [
                ((CELL, GONE), (ROW, LEFT)), ((CELL, LEFT), (ROW, GONE)), ((CELL, BASE), (ROW, LEFT)), ((CELL, LEFT),),
                ((ROW, LEFT), (CELL, LEFT)), ((CELL, LEFT), (ROW, LEFT), (ELSE, ALIKE)), ((CELL, LEFT), (CELL, LEFT)),
                ((CELL, MERGED), (ROW, LEFT)), ((CELL, STRUCK), (ROW, LEFT)), WAYS, [*WAYS[1]],
                (list(WAYS[1][0]), WAYS[1][1]),
                ((list(CELL), LEFT), (ROW, LEFT)), ((CELL, list(LEFT)), (ROW, LEFT)), ((CELL, LEFT, ()), (ROW, LEFT)),
                ((CELL, ("a", True, "left", 0)), (ROW, LEFT)), ((CELL, ("a", 1, "left", False)), (ROW, LEFT)),
                ((("cell", "a", 5, (False, "main", 3)), LEFT), (ROW, LEFT)), (WAYS[1][0], WAYS[1][0]), dict(WAYS[1])]:
            self.is_such(thing)
        true = web_of((LEFT, (), ("writes", ((("row", "a", 1), True),))),
                      (GONE, (), ("writes", ((("row", "a", 1), None),))))
        self.whether(True, is_way, true, whole(true), ((("row", "a", 1), LEFT),))
        self.whether(False, is_way, true, whole(true), ((("row", "a", True), LEFT),))


class Refused(Case):
    def test_each(self):
        wrong = (NoWeb, WRONG_WEBS), (NoLot, WRONG_LOTS)
        self.refuses_each(ways_of, (SMALL, WHOLE), *wrong)
        self.refuses_each(ways_of, (SMALL, WHOLE), *wrong, most=0)
        self.refuses_each(is_way, (SMALL, WHOLE, ()), *wrong)
        self.refuses_each(order_by, (SMALL, WHOLE, ()), *wrong)

    def test_no_way(self):
        for thing in ANYTHING:
            if repr(thing) != "()":
                self.refused(NoWay, order_by, SMALL, WHOLE, thing)
                self.refused(NoWay, order_by, (), (), thing)

    def test_no_number(self):
        wide = apart(*[6] * 50)
        for thing in WRONG_NUMBERS:
            self.refused(NoNumber, ways_of, SMALL, WHOLE, most=thing)
            self.refused(NoNumber, ways_of, (), (), most=thing)
            self.refused(NoNumber, ways_of, wide, whole(wide), most=thing)
        with self.assertRaises(TypeError):
            ways_of(SMALL, WHOLE, 200)

    def test_nothing_else_is_raised(self):
        chance = Chance(82)
        for _ in range(40):
            web = made_web(chance, 6)
            self.told(ways_of, web, whole(web), most=10 ** 4)


if __name__ == "__main__":
    unittest.main()
