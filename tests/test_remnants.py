"""Stage 6, promise 3: what is shaken, what is left, and that nothing else is missed."""

import unittest

from forkrolls.deeds.making import made
from forkrolls.errors import NoLot, NoWeb
from forkrolls.readings.lasts import reading
from forkrolls.remnants.remnants import cut_lot, remnant, shaken
from forkrolls.worlds.worlds import worlds_of
from tests import plain, plain_asks, plain_store
from tests.knots import (
    AFAR, ALIKE, BACK, BASE, CELL, ELSE, FAR, GONE, LEFT, MERGED, PLACES, RIGHT, ROW, STORY, STRUCK, TABLE, knotted,
    lot_of, whole, written)
from tests.looms import NO_LOTS, SMALL, WHOLE, WRONG_LOTS, WRONG_WEBS, in_a_row, made_lot, numbered, stacked
from tests.looms import strikes_of_strikes, web_of
from tests.shops import MAIN, QUESTIONS, few_orders, wovens
from tests.things import ANYTHING, Case, Chance
from tests.weaver import any_deed

WRONG_HELD = [(), [], None, 0, "a", {}, WHOLE, list((WHOLE,)), (None,), (WHOLE, None), ((), [])] + [
    (lot,) for lot in WRONG_LOTS] + [((), lot) for lot in NO_LOTS] + [
    thing for thing in ANYTHING if not (type(thing) is tuple and thing and all(
        plain.lot(SMALL, part) for part in thing))]


def cut(lot, web):
    left = whole(web)
    return tuple(name for name in lot if name in left)


def with_common(chance, web, lots):
    """Lots of all that have common: those held, and others between the two."""
    shared = set(lots[0]).intersection(*lots)
    every = tuple(sorted(set().union(*lots)))
    known = {name: knows for name, knows, _ in web}
    found = [*lots, every, tuple(sorted(shared))]
    for _ in range(3):
        some = shared.union(*({name, *known[name]} for name in chance.some(every, 3)))
        found.append(tuple(sorted(some)))
    return found


class Shaken(Case):
    def test_by_hand(self):
        base, left = lot_of(BASE), lot_of(BASE, LEFT)
        struck, back = lot_of(BASE, LEFT, STRUCK), lot_of(BASE, LEFT, STRUCK, BACK)
        for lots, wanted in [
                ([left], ()), ([base, left], ()), ([left, struck], (LEFT,)), ([struck, left], (LEFT,)),
                ([struck], ()), ([struck, struck], ()), ([struck, back], (LEFT, STRUCK)), ([back], ()),
                ([left, back], (LEFT,)), ([base, back], ()), ([(), back], ()), ([()], ()),
                ([left, struck, back], (LEFT,)), ([whole(STORY)], ()), ([left, lot_of(BASE, LEFT, ALIKE)], ())]:
            self.tells(tuple(sorted(wanted)), shaken, STORY, tuple(lots))

    def test_strikes_of_strikes(self):
        web = strikes_of_strikes(60)
        lots = [tuple(sorted(numbered(at) for at in range(many))) for many in (60, 59, 40)]
        self.tells(lots[2][0:], shaken, web, (lots[0], lots[2]))
        self.tells(tuple(name for name in lots[1]), shaken, web, (lots[0], lots[1]))
        self.tells((), shaken, web, (lots[0],))

    def test_strikes_that_are_nowhere_held(self):
        # Another strikes LEFT, in the web, but in none of the lots.
        self.tells((), shaken, STORY, (lot_of(BASE, LEFT), lot_of(BASE, LEFT, ALIKE)))

    def test_refused(self):
        for function in (shaken, remnant):
            self.refuses_each(function, (SMALL, (WHOLE,)), (NoWeb, WRONG_WEBS), (NoLot, WRONG_HELD))


class Remnant(Case):
    def just(self, web, lots, left, settled):
        self.tells((left, settled), remnant, web, tuple(lots))

    def test_by_hand(self):
        base, left = lot_of(BASE), lot_of(BASE, LEFT)
        whats = {name: what for name, _, what in STORY}
        self.just(STORY, [()], (), ())
        self.just(STORY, [base], ((BASE, (), whats[BASE]),), base)
        # LEFT writes cell and row anew: of BASE the table alone is left.
        bare = written((TABLE, True))
        self.just(STORY, [left], web_of((BASE, (), bare), (LEFT, (BASE,), whats[LEFT])), left)
        self.just(STORY, [base, left], web_of((BASE, (), whats[BASE]), (LEFT, (BASE,), whats[LEFT])), base)
        # Struck in all: BASE is as if LEFT had never been.
        self.just(STORY, [lot_of(BASE, LEFT, STRUCK)], ((BASE, (), whats[BASE]),), base)
        # Struck in the one alone: LEFT is shaken, so it is left, and doesn't outdo BASE.
        self.just(STORY, [left, lot_of(BASE, LEFT, STRUCK)], web_of(
            (BASE, (), whats[BASE]), (LEFT, (BASE,), whats[LEFT]), (STRUCK, (BASE, LEFT), ("strike", LEFT))), left)
        # Struck in both, brought back in the one: all of these are shaken.
        back = lot_of(BASE, LEFT, STRUCK, BACK)
        self.just(STORY, [back, lot_of(BASE, LEFT, STRUCK)], web_of(
            (BASE, (), whats[BASE]), (LEFT, (BASE,), whats[LEFT]), (STRUCK, (BASE, LEFT), ("strike", LEFT)),
            (BACK, (BASE, LEFT, STRUCK), ("strike", STRUCK))), tuple(sorted([BASE, LEFT, STRUCK])))
        self.just(STORY, [back], web_of((BASE, (), bare), (LEFT, (BASE,), whats[LEFT])), left)

    def test_a_firm_strike_of_a_shaken_deed(self):
        # Two strikes of one deed: the one in common, the other in one lot alone.
        first, second = numbered(1), numbered(2)
        web = web_of((numbered(0), (), written((CELL, 1))), (first, (numbered(0),), ("strike", numbered(0))),
                     (second, (numbered(0),), ("strike", numbered(0))))
        shared = tuple(sorted([numbered(0), first]))
        self.tells((numbered(0),), shaken, web, (shared, whole(web)))
        self.just(web, [shared, whole(web)], web, shared)
        self.just(web, [shared], (), ())
        self.just(web, [whole(web)], (), ())

    def test_what_is_merged(self):
        lot = lot_of(BASE, LEFT, RIGHT, AFAR, STRUCK, MERGED)
        whats = {name: what for name, _, what in STORY}
        self.just(STORY, [lot], web_of(
            (BASE, (), written((ROW, True), (TABLE, True))), (AFAR, (), whats[AFAR]),
            (MERGED, (BASE, AFAR), whats[MERGED])), lot_of(BASE, AFAR, MERGED))
        self.just(STORY, [lot_of(BASE, LEFT, ALIKE, GONE)], web_of(
            (BASE, (), written((TABLE, True))), (LEFT, (BASE,), whats[LEFT]), (ALIKE, (BASE,), whats[ALIKE]),
            (GONE, (BASE,), whats[GONE])), lot_of(BASE, LEFT, ALIKE, GONE))
        self.assertEqual({place for place, _ in whats[MERGED][1]}, {CELL, ELSE})
        self.assertEqual(whats[AFAR][1][0], (FAR, 7))

    def test_in_a_row(self):
        web = stacked(in_a_row(100))
        left, settled = self.told(remnant, web, (whole(web),))
        # Each writes a row of its own; of those that write the table the last alone goes on to.
        self.assertEqual(whole(left), whole(web))
        self.assertEqual([name for name, _, what in left if (TABLE in dict(what[1]))], [numbered(99)])
        self.assertEqual(settled, whole(web))

    def test_as_plainly(self):
        chance = Chance(251)
        for _ in range(120):
            web = knotted(chance, chance.below(13), chance.mixed(PLACES)[:1 + chance.below(5)], 2 + chance.below(3), 2)
            lots = tuple(made_lot(chance, web) for _ in range(1 + chance.below(3)))
            for held in (lots, lots[:1], (*lots, whole(web)), (whole(web), ()), lots[:1] * 2):
                wanted = plain_store.remnant(web, held)
                self.tells(plain_store.shaken(web, held), shaken, web, held)
                self.just(web, held, *wanted)
                self.assertTrue(plain.web(wanted[0]))
                # A remnant of a remnant for the same lots is itself.
                again = tuple(cut(lot, wanted[0]) for lot in held)
                self.tells(tuple(again), tuple, [self.told(cut_lot, wanted[0], lot) for lot in held])
                self.just(wanted[0], again, *wanted)

    def test_nothing_is_missed(self):
        chance = Chance(252)
        fewer = 0
        for _ in range(60):
            web = knotted(chance, 4 + chance.below(6), chance.mixed(PLACES)[:1 + chance.below(4)], 3, 2)
            lots = tuple(made_lot(chance, web) for _ in range(1 + chance.below(3)))
            left, _ = remnant(web, lots)
            fewer += len(web) - len(left)
            for lot in with_common(chance, web, lots):
                few = self.told(cut_lot, left, lot)
                self.assertTrue(plain.lot(left, few))
                for place in PLACES:
                    self.assertEqual(repr(reading(left, few, place)), repr(plain.reading(web, lot, place)))
                if few_orders(web, lot):
                    self.assertEqual({repr(state) for state in plain.ends(web, lot)},
                                     {repr(state) for state in plain.ends(left, few)})
                self.assertEqual([state for state, _ in worlds_of(web, lot, most=10 ** 4)],
                                 [state for state, _ in worlds_of(left, few, most=10 ** 4)])
        self.assertGreater(fewer, 60)

    def test_behind_new_deeds(self):
        """New deeds that know common and strike nothing settled: done behind the remnant as behind the web."""
        chance = Chance(253)
        asked = 0
        for weaver in wovens(254, 12, 7):
            lots = [lot for at, lot in weaver.lots.items()]
            left, settled = remnant(weaver.web, tuple(lots))
            sides = [(weaver.web, list(lots)), (left, [cut(lot, left) for lot in lots])]
            for number in range(6):
                at = chance.below(len(lots))
                deed = any_deed(chance, sides[1][0], "a")
                if deed[0] == "undo" and (deed[1:] in settled or deed[1:] not in sides[1][1][at]):
                    continue
                try:
                    plain_asks.made(sides[0][0], sides[0][1][at], 5, "new", deed, number)
                except plain_asks.Refused:
                    continue
                for side, (web, held) in enumerate(sides):
                    new = made(web, held[at], 5, "new", deed, number=number)
                    held[at] = tuple(sorted(held[at] + (new[0],)))
                    sides[side] = (tuple(sorted(web + (new,))), held)
            for lot, few in zip(sides[0][1], sides[1][1]):
                if few_orders(sides[0][0], lot, 150):
                    asked += 1
                    ends = [list(plain.ends(sides[0][0], lot)), list(plain.ends(sides[1][0], few))]
                    self.assertEqual({repr(state) for state in ends[0]}, {repr(state) for state in ends[1]})
                    for question in QUESTIONS[::4]:
                        self.assertEqual(plain_store.sure_and_perhaps(ends[0], question),
                                         plain_store.sure_and_perhaps(ends[1], question))
        self.assertGreater(asked, 20)

    def test_of_a_weaver(self):
        for weaver in wovens(255, 10, 10):
            lots = tuple(weaver.lots.values())
            self.just(weaver.web, lots, *plain_store.remnant(weaver.web, lots))
            self.just(weaver.web, (weaver.lots[MAIN],), *plain_store.remnant(weaver.web, (weaver.lots[MAIN],)))


class CutLot(Case):
    def test_by_hand(self):
        self.tells((), cut_lot, (), ())
        self.tells((), cut_lot, (), whole(STORY))
        self.tells(whole(STORY), cut_lot, STORY, whole(STORY))
        self.tells(lot_of(LEFT), cut_lot, STORY, lot_of(LEFT))
        self.tells(lot_of(BASE), cut_lot, STORY, tuple(sorted([BASE, ("a", 5, "nowhere", 7), ("z", 0, "main", 0)])))
        self.tells((), cut_lot, SMALL, (("z", 0, "main", 0),))

    def test_refused(self):
        wrong = [thing for thing in ANYTHING if not (plain.row_all(thing, plain.deed_name) and plain.rising(thing))] + [
            list(WHOLE), WHOLE[::-1], WHOLE + WHOLE[-1:], WHOLE[0], (list(WHOLE[0]),), (("a", True, "left", 1),),
            (None, WHOLE[0]), dict.fromkeys(WHOLE)]
        self.refuses_each(cut_lot, (SMALL, WHOLE), (NoWeb, WRONG_WEBS), (NoLot, wrong))


if __name__ == "__main__":
    unittest.main()
