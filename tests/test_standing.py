"""Stage 2, promises 10, 14 and 15: what stands, and that a deed struck is as never done."""

import unittest

from forkrolls.errors import Lacking, NoLot, NoWeb
from forkrolls.webs.lots import whole_of
from forkrolls.webs.orders import many_orders, order_of, state_by
from forkrolls.webs.standing import standing, stands
from tests import plain
from tests.looms import (
    AGAIN, ELSEWHERE, FIRST, LEFT, MERGED, NO_NAMES, RIGHT, SMALL, STRANGE, STRIKE, TABLE, WHOLE, WRONG_LOTS,
    WRONG_WEBS, made_lot, made_web, strikes_of_strikes, web_of, web_without)
from tests.things import Case, Chance

LAST, LATER = ("a", 4, "last", 0), ("a", 4, "alast", 0)


def lot_of(*names):
    return tuple(sorted(names))


class Standing(Case):
    def test_by_hand(self):
        self.tells((), standing, (), ())
        self.tells((), standing, SMALL, ())
        self.tells(lot_of(FIRST, LEFT), standing, SMALL, lot_of(FIRST, LEFT))
        self.tells(lot_of(FIRST, STRIKE), standing, SMALL, lot_of(FIRST, LEFT, STRIKE))
        self.tells(lot_of(FIRST, LEFT, AGAIN), standing, SMALL, lot_of(FIRST, LEFT, STRIKE, AGAIN))
        self.tells(lot_of(FIRST, LEFT, RIGHT, AGAIN, MERGED, ELSEWHERE), standing, SMALL, WHOLE)

    def test_stands(self):
        lot = lot_of(FIRST, LEFT, STRIKE)
        for name, wanted in [(FIRST, True), (LEFT, False), (STRIKE, True)]:
            self.whether(wanted, stands, SMALL, lot, name)
        self.whether(True, stands, SMALL, WHOLE, LEFT)
        self.whether(False, stands, SMALL, WHOLE, STRIKE)

    def test_two_strikes_of_one(self):
        other = ("a", 5, "other", 0)
        web = web_of((FIRST, (), TABLE), (STRIKE, (FIRST,), ("strike", FIRST)), (other, (FIRST,), ("strike", FIRST)),
                     (LAST, (FIRST, STRIKE), ("strike", STRIKE)), (LATER, (FIRST, other), ("strike", other)))
        for lot, wanted in [
                (lot_of(FIRST, STRIKE, other), (other, STRIKE)), (lot_of(FIRST, STRIKE, other, LAST), (other, LAST)),
                (lot_of(FIRST, STRIKE, LAST), (FIRST, LAST)),
                (lot_of(FIRST, STRIKE, other, LAST, LATER), (FIRST, LAST, LATER))]:
            self.tells(lot_of(*wanted), standing, web, lot)

    def test_strikes_of_strikes(self):
        for many in (1, 2, 3, 4, 120, 151):
            web = strikes_of_strikes(many)
            # The latest is named first; from it back, one stands and one doesn't.
            self.tells(whole_of(web)[::2], standing, web, whole_of(web))
            for name in whole_of(web)[:4]:
                self.whether(name in whole_of(web)[::2], stands, web, whole_of(web), name)

    def test_as_plainly(self):
        chance = Chance(41)
        for _ in range(120):
            web = made_web(chance, chance.below(14), strikes=2)
            for lot in (made_lot(chance, web), whole_of(web)):
                self.tells(plain.standing(web, lot), standing, web, lot)
                for name in lot:
                    self.whether(plain.stands(web, lot, name), stands, web, lot, name)


class Refused(Case):
    def test_no_web(self):
        for thing in WRONG_WEBS:
            for lot in ((), None):
                self.refused(NoWeb, standing, thing, lot)
                self.refused(NoWeb, stands, thing, lot, None)

    def test_no_lot(self):
        for thing in WRONG_LOTS:
            self.refused(NoLot, standing, SMALL, thing)
            self.refused(NoLot, stands, SMALL, thing, FIRST)
            self.refused(NoLot, stands, SMALL, thing, None)

    def test_lacking(self):
        for name in [*NO_NAMES, STRANGE]:
            self.lacks(Lacking, name, stands, SMALL, WHOLE, name)
        for name in WHOLE:
            self.lacks(Lacking, name, stands, SMALL, (), name)
        for name in (RIGHT, AGAIN, ELSEWHERE):
            self.lacks(Lacking, name, stands, SMALL, lot_of(FIRST, LEFT, STRIKE), name)


def with_strike(web, lot, target, name):
    """The web and the lot with one deed more, that knows the lot and strikes the target."""
    return web_of(*web, (name, lot, ("strike", target))), lot_of(*lot, name)


class AsNeverDone(Case):
    def test_struck_and_struck_again(self):
        chance = Chance(42)
        many = 0
        while many < 150:
            web = made_web(chance, 7, strikes=4)
            lot = made_lot(chance, web)
            named = [what[1] for _, _, what in web if what[0] == "strike"]
            targets = [name for name in lot if name not in named]
            if not targets:
                continue
            many += 1
            target = chance.one(targets)
            name, again = (target[0], 4, "last", 0), (target[0], 4, "alast", 0)
            struck, its_lot = with_strike(web, lot, target, name)
            left = tuple(each for each in lot if each != target)
            self.alike(struck, its_lot, web_without(web, target), left, (name,), (target,))
            back, its_lot = with_strike(struck, its_lot, name, again)
            self.alike(back, its_lot, web, lot, (again,), (name,))

    def alike(self, web, lot, other, its_lot, more, gone):
        """The one lot stands as the other, but for these strikes more and these that don't stand."""
        self.tells(lot_of(*plain.standing(other, its_lot), *more), standing, web, lot)
        for name in gone:
            self.whether(False, stands, web, lot, name)
        self.tells(many_orders(other, its_lot, most=10 ** 4), many_orders, web, lot, most=10 ** 4)
        order = order_of(other, its_lot)
        self.tells(state_by(other, its_lot, order), state_by, web, lot, order)


if __name__ == "__main__":
    unittest.main()
