"""Stage 2, promises 11 to 14: orders, how many there are, and the state by one of them."""

import unittest

from forkrolls.errors import NoLot, NoNumber, NoOrder, NoWeb, TooWide
from forkrolls.webs import orders
from forkrolls.webs.lots import whole_of
from forkrolls.webs.orders import is_order, many_orders, order_of, state_by
from forkrolls.webs.standing import standing
from tests import plain
from tests.looms import (
    AGAIN, ELSEWHERE, FIRST, LEFT, MERGED, RIGHT, SMALL, STRANGE, STRIKE, WHOLE, WRONG_LOTS, WRONG_NUMBERS, WRONG_WEBS,
    beside, in_a_row, made_lot, made_web, numbered, stacked, strikes_of_strikes, web_of)
from tests.things import ANYTHING, IDENT, Case, Chance, bent

SOUND = (FIRST, LEFT, RIGHT, ELSEWHERE, MERGED)
NO_ORDERS = [
    (), SOUND[1:], SOUND[:-1], SOUND + SOUND[-1:], (FIRST, LEFT, LEFT, ELSEWHERE, MERGED), list(SOUND), SOUND[::-1],
    (LEFT, FIRST, RIGHT, ELSEWHERE, MERGED), (FIRST, LEFT, RIGHT, MERGED, ELSEWHERE), SOUND + (AGAIN,), WHOLE,
    (FIRST, LEFT, STRIKE, RIGHT, ELSEWHERE, MERGED), (FIRST, LEFT, RIGHT, ELSEWHERE, AGAIN), (SOUND,), SOUND + (None,),
    (FIRST, LEFT, RIGHT, ELSEWHERE, STRANGE), (FIRST, ("a", True, "left", 1), RIGHT, ELSEWHERE, MERGED),
    (FIRST, ("a", 1, "left", True), RIGHT, ELSEWHERE, MERGED), (FIRST, list(LEFT), RIGHT, ELSEWHERE, MERGED),
    (FIRST, None, RIGHT, ELSEWHERE, MERGED), (FIRST, {}, RIGHT, ELSEWHERE, MERGED), dict.fromkeys(SOUND),
    (FIRST, LEFT, RIGHT, ("b", False, "main", 0), MERGED), (FIRST, ([],), RIGHT, ELSEWHERE, MERGED)]
WRONG_ORDERS = NO_ORDERS + [thing for thing in ANYTHING if not plain.order(SMALL, WHOLE, thing)]


def whole(web):
    return tuple(deed[0] for deed in web)


def fives():
    """Heaps of four deeds behind one another and one beside them: five orders each."""
    return [in_a_row(4, start) + beside(1, start + 4) for start in (100, 200, 300, 400)]


class Orders(Case):
    def test_by_hand(self):
        self.whether(True, is_order, SMALL, WHOLE, SOUND)
        self.whether(True, is_order, SMALL, WHOLE, (ELSEWHERE, FIRST, RIGHT, LEFT, MERGED))
        self.whether(True, is_order, SMALL, tuple(sorted([FIRST, LEFT, STRIKE])), (FIRST,))
        self.whether(False, is_order, SMALL, tuple(sorted([FIRST, LEFT, STRIKE])), (FIRST, LEFT))
        self.whether(True, is_order, SMALL, (), ())
        self.whether(True, is_order, (), (), ())
        self.whether(False, is_order, (), (), (FIRST,))
        for thing in NO_ORDERS:
            self.whether(False, is_order, SMALL, WHOLE, thing)

    def test_what_is_known_through_a_struck_deed(self):
        middle, last = ("a", 0, "mid", 0), ("a", 0, "a", 0)
        strike = ("a", 2, "s", 0)
        what = ("writes", ((("table", "a"), True),))
        web = web_of((FIRST, (), what), (middle, (FIRST,), what), (last, (FIRST, middle), what),
                     (strike, (FIRST, middle), ("strike", middle)))
        self.whether(True, is_order, web, whole(web), (FIRST, last))
        self.whether(False, is_order, web, whole(web), (last, FIRST))
        self.tells((FIRST, last), order_of, web, whole(web))
        self.tells(1, many_orders, web, whole(web))

    def test_anything_and_bent(self):
        for thing in [*ANYTHING, *bent(SOUND)]:
            self.whether(plain.order(SMALL, WHOLE, thing), is_order, SMALL, WHOLE, thing)
            for row in ((thing,), SOUND[:-1] + (thing,), (thing,) + SOUND[1:]):
                self.whether(plain.order(SMALL, WHOLE, row), is_order, SMALL, WHOLE, row)

    def test_as_plainly(self):
        chance = Chance(51)
        for _ in range(60):
            web = made_web(chance, chance.below(8))
            for lot in (made_lot(chance, web), whole(web)):
                wanted = plain.orders(web, lot)[:10 ** 4]
                self.assertIn(self.told(order_of, web, lot), wanted)
                for order in wanted[:20]:
                    self.whether(True, is_order, web, lot, order)
                    self.tells(plain.state_by(web, order), state_by, web, lot, order)
                for _ in range(20):
                    row = tuple(chance.mixed(plain.writers(web, lot)))
                    self.whether(row in wanted, is_order, web, lot, row)

    def test_orders_are_of_great_lots_too(self):
        for web in (stacked(in_a_row(150)), stacked(beside(300)), stacked(beside(50), in_a_row(100, 50))):
            order = self.told(order_of, web, whole(web))
            self.assertEqual(sorted(order), sorted(whole(web)))
            place = {name: at for at, name in enumerate(order)}
            self.assertTrue(all(place[below] < place[name] for name, knows, _ in web for below in knows))
            self.whether(True, is_order, web, whole(web), order)
            self.whether(False, is_order, web, whole(web), order[:-1])
        self.tells(tuple(numbered(at) for at in range(150)), order_of, stacked(in_a_row(150)),
                   whole(stacked(in_a_row(150))))


class States(Case):
    def test_none(self):
        self.tells((), state_by, (), (), ())
        self.tells((), state_by, SMALL, (), ())

    def test_by_hand(self):
        a, b, cell = (("table", "a"), True), (("table", "b"), True), (("cell", "a", 5, IDENT), "word")
        row = (("row", "a", 5), True)
        self.tells((cell, row, a, b), state_by, SMALL, WHOLE, SOUND)
        self.tells((cell, a), state_by, SMALL, tuple(sorted([FIRST, LEFT, RIGHT, STRIKE])), (FIRST, RIGHT))

    def test_the_later_one_has_its_say(self):
        one, two, three = ("a", 1, "x", 5), ("a", 0, "x", 5), ("a", 0, "x", 4)
        place, table = ("cell", "a", 0, IDENT), ("table", "a")
        web = web_of((one, (), ("writes", ((place, 1), (table, True)))), (two, (), ("writes", ((place, 0),))),
                     (three, (), ("writes", ((place, None),))))
        for order, wanted in [((one, two, three), ()), ((two, one, three), ()),
                              ((one, three, two), ((place, 0),)), ((three, one, two), ((place, 0),)),
                              ((three, two, one), ((place, 1),)), ((two, three, one), ((place, 1),))]:
            self.tells((*wanted, (table, True)), state_by, web, whole(web), order)

    def test_rows_behind_one_another(self):
        web = stacked(in_a_row(150))
        order = tuple(numbered(at) for at in range(150))
        self.tells(plain.state_by(web, order), state_by, web, whole(web), order)

    def test_great_states(self):
        deeds = [(("a", 0, "m", at), [("a", 0, "m", low) for low in range(at)],
                  ("writes", tuple((("row", "a", 300 * at + key), True) for key in range(300)))) for at in range(4)]
        web = web_of(*deeds)
        self.assertEqual(len(state_by(web, whole(web), whole(web))), 1200)


class ManyOrders(Case):
    def test_the_least_at_first(self):
        self.assertEqual(orders.MOST_ORDERS, 400)
        for web in ((), SMALL[:0], strikes_of_strikes(3)):
            self.tells(1, many_orders, web, whole(web))
            self.tells(1, many_orders, web, whole(web), most=1)
        self.tells(1, many_orders, SMALL, (), most=1)

    def test_by_hand(self):
        # The first and left and right behind it, the one elsewhere beside these, the merged one last.
        self.tells(8, many_orders, SMALL, WHOLE)
        self.tells(2, many_orders, SMALL, tuple(sorted([FIRST, ELSEWHERE])))
        self.tells(1, many_orders, SMALL, tuple(sorted([FIRST, LEFT, STRIKE])))
        self.tells(6, many_orders, stacked(beside(3)), whole(stacked(beside(3))))

    def test_as_plainly(self):
        chance = Chance(52)
        for _ in range(60):
            web = made_web(chance, chance.below(8))
            for lot in (made_lot(chance, web), whole(web)):
                self.just(len(plain.orders(web, lot)), web, lot)

    def just(self, many, web, lot):
        """Told at just as many, too wide at one less."""
        self.tells(many, many_orders, web, lot, most=many)
        self.tells(many, many_orders, web, lot, most=10 ** 4)
        if many > 1:
            self.refused(TooWide, many_orders, web, lot, most=many - 1)
            self.refused(TooWide, many_orders, web, lot, most=1)
        if many > 400:
            self.refused(TooWide, many_orders, web, lot)
        else:
            self.tells(many, many_orders, web, lot)

    def test_edges(self):
        pairs = [beside(2, start) for start in (500, 510, 520, 530)]
        web = stacked(*pairs, *fives()[:2])
        self.just(400, web, whole(web))
        web = stacked(*pairs, *fives())
        self.just(10 ** 4, web, whole(web))
        web = stacked(*pairs, *fives(), beside(2, 600))
        self.refused(TooWide, many_orders, web, whole(web), most=10 ** 4)
        self.just(720, stacked(beside(6)), whole(stacked(beside(6))))
        self.just(5040, stacked(beside(7)), whole(stacked(beside(7))))

    def test_great_lots(self):
        web = stacked(in_a_row(150))
        self.just(1, web, whole(web))
        self.just(150, stacked(in_a_row(149) + beside(1, 200)), whole(stacked(in_a_row(149) + beside(1, 200))))
        web = stacked(in_a_row(120), beside(3, 200), in_a_row(120, 300))
        self.just(6, web, whole(web))
        web = stacked(in_a_row(399) + beside(1, 500))
        self.tells(400, many_orders, web, whole(web))
        web = stacked(in_a_row(400) + beside(1, 500))
        self.refused(TooWide, many_orders, web, whole(web))

    def test_far_more_than_most(self):
        for web in (stacked(beside(300)), stacked(in_a_row(100), beside(100, 200)),
                    stacked(beside(100), in_a_row(99, 100)), stacked(in_a_row(100) + in_a_row(100, 200))):
            for most in (1, 400, 10 ** 4):
                self.refused(TooWide, many_orders, web, whole(web), most=most)
            self.refused(TooWide, many_orders, web, whole(web))

    def test_strikes_do_not_count(self):
        web = web_of(*((name, knows, what) for name, knows, what in beside(6)),
                     *((("a", 5, "s", at), (numbered(at),), ("strike", numbered(at))) for at in range(4)))
        self.assertEqual(len(standing(web, whole_of(web))), 6)
        self.just(2, web, whole(web))

    def test_most_is_handed_in_by_its_name(self):
        with self.assertRaises(TypeError):
            many_orders(SMALL, WHOLE, 400)


class Refused(Case):
    def test_no_web(self):
        for thing in WRONG_WEBS:
            for lot in ((), None):
                self.refused(NoWeb, order_of, thing, lot)
                self.refused(NoWeb, is_order, thing, lot, ())
                self.refused(NoWeb, state_by, thing, lot, None)
                self.refused(NoWeb, many_orders, thing, lot)
                self.refused(NoWeb, many_orders, thing, lot, most=0)

    def test_no_lot(self):
        for thing in WRONG_LOTS:
            self.refused(NoLot, order_of, SMALL, thing)
            self.refused(NoLot, is_order, SMALL, thing, SOUND)
            self.refused(NoLot, is_order, SMALL, thing, None)
            self.refused(NoLot, state_by, SMALL, thing, SOUND)
            self.refused(NoLot, state_by, SMALL, thing, None)
            self.refused(NoLot, many_orders, SMALL, thing)
            self.refused(NoLot, many_orders, SMALL, thing, most=None)

    def test_no_order(self):
        for thing in WRONG_ORDERS:
            self.refused(NoOrder, state_by, SMALL, WHOLE, thing)
        self.refused(NoOrder, state_by, SMALL, (), (FIRST,))
        self.refused(NoOrder, state_by, (), (), None)

    def test_no_number(self):
        wide = stacked(beside(30))
        for thing in WRONG_NUMBERS:
            self.refused(NoNumber, many_orders, SMALL, WHOLE, most=thing)
            self.refused(NoNumber, many_orders, (), (), most=thing)
            self.refused(NoNumber, many_orders, wide, whole(wide), most=thing)


if __name__ == "__main__":
    unittest.main()
