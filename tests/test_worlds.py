"""Stage 3, promises 12 to 14: worlds, and what shows them."""

import unittest

from forkrolls.errors import NoLot, NoNumber, NoWeb, TooWide
from forkrolls.webs.orders import order_of
from forkrolls.worlds.ways import ways_of
from forkrolls.worlds.worlds import shows_worlds, worlds_of
from tests import plain
from tests.knots import (
    ALIKE, BACK, BASE, CELL, GONE, LEFT, PLACES, ROW, STORY, STRUCK, TABLE, apart, knotted, lot_of, one_of, ring,
    row_beside, whole, writers_of)
from tests.looms import (
    SMALL, WHOLE, WRONG_LOTS, WRONG_NUMBERS, WRONG_WEBS, in_a_row, made_lot, stacked, strikes_of_strikes, web_of)
from tests.things import ANYTHING, Case, Chance, bent

LOT = lot_of(BASE, LEFT, GONE)
WITH = ((CELL, 1), (ROW, True), (TABLE, True))
WITHOUT = ((TABLE, True),)
WORLDS = ((WITH, (BASE, GONE, LEFT)), (WITHOUT, (BASE, LEFT, GONE)))


class Worlds(Case):
    def just(self, web, lot, states):
        """These states, each with an order by which it comes; at just as many ways, not at one less."""
        many = len(ways_of(web, lot, most=10 ** 4))
        for more in ({"most": many}, {"most": 10 ** 4}, *([{}] if many <= 200 else [])):
            found = self.told(worlds_of, web, lot, **more)
            self.assertEqual(repr([state for state, _ in found]), repr(states))
            for state, order in found:
                self.assertTrue(plain.order(web, lot, order))
                self.assertEqual(repr(plain.state_by(web, order)), repr(state))
            self.assertIs(self.told(shows_worlds, web, lot, found, **more), True)
        self.too_wide(web, lot, many - 1)
        if many > 200:
            self.too_wide(web, lot, None)

    def too_wide(self, web, lot, most):
        more = {} if most is None else {"most": most}
        if most != 0:
            self.refused(TooWide, worlds_of, web, lot, **more)
            self.refused(TooWide, shows_worlds, web, lot, None, **more)

    def test_nothing_clashes(self):
        self.tells((((), ()),), worlds_of, (), ())
        self.tells((((), ()),), worlds_of, STORY, ())
        self.tells(((((CELL, 1), (ROW, True), (TABLE, True)), (BASE, LEFT)),), worlds_of, STORY, lot_of(BASE, LEFT))
        for web in (SMALL, stacked(in_a_row(120)), strikes_of_strikes(120)):
            found = self.told(worlds_of, web, whole(web))
            self.assertEqual(len(found), 1)
            self.assertIs(shows_worlds(web, whole(web), found), True)
            self.assertIs(shows_worlds(web, whole(web), ((found[0][0], order_of(web, whole(web))),)), True)

    def test_by_hand(self):
        self.tells(WORLDS, worlds_of, STORY, LOT)
        self.just(STORY, LOT, [WITH, WITHOUT])
        self.just(STORY, lot_of(BASE, LEFT, GONE, STRUCK), [WITHOUT])
        self.just(STORY, lot_of(BASE, LEFT, GONE, STRUCK, BACK), [WITH, WITHOUT])

    def test_unlike_ways_to_one_state(self):
        # Four ways, as the cell has two that write alike; three states.
        lot = lot_of(BASE, LEFT, GONE, ALIKE)
        self.assertEqual(len(ways_of(STORY, lot)), 4)
        self.just(STORY, lot, [WITH, ((CELL, 1), (TABLE, True)), WITHOUT])
        values = ["x"] * 5 + ["y"]
        web = web_of(*((one_of(at), (), ("writes", ((CELL, value),))) for at, value in enumerate(values)))
        self.assertEqual(len(ways_of(web, whole(web))), 6)
        self.just(web, whole(web), [((CELL, "x"),), ((CELL, "y"),)])

    def test_ways_count_not_worlds(self):
        # Two states, but more ways than most.
        web = web_of(*((one_of(at), (), ("writes", ((CELL, "x" if at else None),))) for at in range(201)))
        self.refused(TooWide, worlds_of, web, whole(web))
        self.just(web, whole(web), [((CELL, "x"),), ()])

    def test_by_text(self):
        values = [10, 9, -1, "z", "a", 0, None, 100]
        web = web_of(*((one_of(at), (), ("writes", ((CELL, value),))) for at, value in enumerate(values)))
        states = [() if value is None else ((CELL, value),) for value in values]
        self.just(web, whole(web), sorted(states, key=repr))

    def test_as_plainly(self):
        chance = Chance(91)
        for _ in range(80):
            places = chance.mixed(PLACES)[:1 + chance.below(5)]
            web = knotted(chance, chance.below(8), places, 6, 2 + chance.below(4))
            for lot in (whole(web), made_lot(chance, web)):
                self.just(web, lot, sorted(plain.ends(web, lot), key=repr))

    def test_rings(self):
        for count in range(2, 6):
            self.just(ring(count), whole(ring(count)), sorted(plain.ends(ring(count), whole(ring(count))), key=repr))

    def test_many(self):
        for web, wanted in [(apart(5, 5, 4, 2), 200), (apart(6, 6, 6), 216), (apart(*[2] * 8), 256),
                            (row_beside(60), 61), (writers_of(*([0, 1] for _ in range(200))), 2)]:
            found = worlds_of(web, whole(web), most=wanted)
            self.assertEqual(len(found), wanted)
            self.assertEqual([repr(state) for state, _ in found], sorted({repr(state) for state, _ in found}))
            self.assertTrue(all(plain.state_by(web, order) == state for state, order in found))
            self.too_wide(web, whole(web), wanted - 1)
        for web in (apart(*[2] * 150), ring(120), apart(*[6] * 8)):
            self.too_wide(web, whole(web), None)
            self.too_wide(web, whole(web), 1)

    def test_another_web_asked_between(self):
        other = web_of((BASE, (), ("writes", ((CELL, 9),))), (LEFT, (BASE,), ("writes", ((CELL, 7),))),
                       (GONE, (BASE,), ("writes", ((CELL, 8),))))
        for _ in range(2):
            self.tells(WORLDS, worlds_of, STORY, LOT)
            self.assertNotEqual(self.told(worlds_of, other, LOT), WORLDS)
            self.assertIs(self.told(shows_worlds, other, LOT, WORLDS), False)
            self.assertIs(self.told(shows_worlds, STORY, LOT, WORLDS), True)


def shows(web, lot, thing):
    """By the words of the promise: the states as they are told, each with any order by which it comes."""
    states = [repr(state) for state in sorted(plain.ends(web, lot), key=repr)]
    formed = plain.row_all(thing, lambda part: plain.row_of(part, plain.state, lambda row: plain.order(web, lot, row)))
    return formed and [repr(state) for state, _ in thing] == states and all(
        repr(plain.state_by(web, order)) == repr(state) for state, order in thing)


class ShowsWorlds(Case):
    def alike(self, web, lot, thing):
        self.whether(shows(web, lot, thing), shows_worlds, web, lot, thing)

    def test_anything_and_bent(self):
        for thing in [*ANYTHING, *bent(WORLDS)]:
            self.alike(STORY, LOT, thing)
        for thing in ANYTHING:
            for each in ((thing,), (thing, WORLDS[1]), ((WITH, thing), WORLDS[1]), ((thing, WORLDS[0][1]), WORLDS[1]),
                         ((WITH, (BASE, thing, LEFT)), WORLDS[1])):
                self.alike(STORY, LOT, each)
            self.alike((), (), thing)
            self.alike((), (), (thing,))

    def test_one_thing_otherwise(self):
        one, two = WORLDS
        for thing in [
                (two, one), (one,), (one, two, two), (one, one, two), [one, two], (list(one), two),
                ((WITH, two[1]), two),
                (one, (WITHOUT, one[1])), ((WITH, (BASE, LEFT)), two), ((WITH, (GONE, BASE, LEFT)), two),
                ((WITH, one[1], ()), two), ((WITH[1:], one[1]), two), ((WITH + WITH[-1:], one[1]), two),
                ((list(WITH), one[1]), two), ((WITH, list(one[1])), two), ((dict(WITH), one[1]), two),
                ((((CELL, True),) + WITH[1:], one[1]), two), ((WITH[:1] + ((ROW, 1),) + WITH[2:], one[1]), two),
                ((((("cell", "a", 5, (False, "main", 3)), 1),) + WITH[1:], one[1]), two),
                ((WITH, (BASE, GONE, ("a", True, "left", 0))), two), (((), one[1]), two), ((WITH, ()), two), (one, ())]:
            self.whether(False, shows_worlds, STORY, LOT, thing)
            self.alike(STORY, LOT, thing)

    def test_other_orders(self):
        chance = Chance(92)
        for _ in range(40):
            web = knotted(chance, 2 + chance.below(4), chance.mixed(PLACES)[:3], 8, 4)
            lot = whole(web)
            found = worlds_of(web, lot, most=10 ** 4)
            for order in plain.orders(web, lot)[:30]:
                end = plain.state_by(web, order)
                told = tuple((state, order if state == end else row) for state, row in found)
                self.assertIs(shows_worlds(web, lot, told, most=10 ** 4), True)
                wrong = tuple((state, order if state != end else row) for state, row in found)
                self.assertIs(shows_worlds(web, lot, wrong, most=10 ** 4), len(found) == 1)


class Refused(Case):
    def test_each(self):
        wrong = (NoWeb, WRONG_WEBS), (NoLot, WRONG_LOTS)
        for more in ({}, {"most": 0}):
            self.refuses_each(worlds_of, (SMALL, WHOLE), *wrong, **more)
            self.refuses_each(shows_worlds, (SMALL, WHOLE, ()), *wrong, **more)

    def test_no_number(self):
        wide = apart(*[6] * 50)
        for thing in WRONG_NUMBERS:
            for web in (SMALL, wide, ()):
                self.refused(NoNumber, worlds_of, web, whole(web), most=thing)
                self.refused(NoNumber, shows_worlds, web, whole(web), None, most=thing)
        with self.assertRaises(TypeError):
            worlds_of(SMALL, WHOLE, 200)
        with self.assertRaises(TypeError):
            shows_worlds(SMALL, WHOLE, (), 200)


if __name__ == "__main__":
    unittest.main()
