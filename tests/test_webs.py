"""Stage 2, promises 6 and 9: webs, what the deeds know and are."""

import unittest

from forkrolls.errors import Lacking, NoWeb
from forkrolls.webs.webs import is_web, knows_of, what_of
from tests import plain
from tests.looms import (
    AGAIN, BEHIND, ELSEWHERE, FIRST, LEFT, MERGED, NO_NAMES, NO_WEBS, ROW, SMALL, STRANGE, STRIKE, TABLE, WRONG_WEBS,
    beside, in_a_row, made_web, named, stacked, strikes_of_strikes, web_of)
from tests.things import ANYTHING, Case, Chance, bent

GREATS = [stacked(in_a_row(150)), stacked(beside(300)), strikes_of_strikes(120)]


class IsWeb(Case):
    def test_webs(self):
        for web in [(), SMALL, BEHIND, *GREATS, named(("a", 0, "a", 0)), named(("a", 7, "abcdefgh", 10 ** 6))]:
            self.whether(True, is_web, web)

    def test_numbers_of_the_edges(self):
        low, high = ("a", 0, "main", 0), ("a", 0, "main", 10 ** 6)
        self.whether(True, is_web, ((low, (), TABLE), (high, (low,), ("strike", low))))
        self.whether(True, is_web, ((low, (high,), ("strike", high)), (high, (), TABLE)))

    def test_no_webs(self):
        for thing in NO_WEBS:
            self.whether(False, is_web, thing)

    def test_anything(self):
        for thing in ANYTHING:
            self.whether(plain.web(thing), is_web, thing)
            for web in [((("a", 0, "b", 0), thing, TABLE),), ((("a", 0, "b", 0), (), thing),), ((thing, (), TABLE),),
                        (thing,), (*BEHIND, thing), (thing, *BEHIND), ((("a", 0, "b", 0), (thing,), TABLE),),
                        ((("a", 0, "b", 0), (), (thing, TABLE[1])),), ((("a", 0, "b", 0), (), ("writes", thing)),),
                        (BEHIND[0], (BEHIND[1][0], BEHIND[1][1], ("strike", thing)))]:
                self.whether(plain.web(web), is_web, web)

    def test_bent(self):
        for web in [BEHIND, web_of(BEHIND[0], (LEFT, (BEHIND[0][0],), ("strike", BEHIND[0][0])))]:
            for thing in bent(web):
                self.whether(plain.web(thing), is_web, thing)

    def test_each_knows_left_out(self):
        for at, (name, knows, what) in enumerate(SMALL):
            for below in knows:
                less = tuple(each for each in knows if each != below)
                web = SMALL[:at] + ((name, less, what),) + SMALL[at + 1:]
                self.whether(plain.web(web), is_web, web)

    def test_each_deed_left_out(self):
        chance = Chance(21)
        for _ in range(60):
            web = made_web(chance, 8)
            self.whether(True, is_web, web)
            for at in range(len(web)):
                less = web[:at] + web[at + 1:]
                self.whether(plain.web(less), is_web, less)

    def test_each_knows_more(self):
        for at, (name, knows, what) in enumerate(SMALL):
            for other, _, _ in SMALL:
                more = tuple(sorted({*knows, other}))
                web = SMALL[:at] + ((name, more, what),) + SMALL[at + 1:]
                self.whether(plain.web(web), is_web, web)


class WhatTheWebHas(Case):
    def test_by_hand(self):
        self.tells((), knows_of, SMALL, FIRST)
        self.tells((FIRST,), knows_of, SMALL, LEFT)
        self.tells(tuple(sorted([FIRST, LEFT])), knows_of, SMALL, STRIKE)
        self.tells(TABLE, what_of, SMALL, FIRST)
        self.tells(ROW, what_of, SMALL, MERGED)
        self.tells(("strike", LEFT), what_of, SMALL, STRIKE)
        self.tells(("strike", STRIKE), what_of, SMALL, AGAIN)
        self.tells(("writes", ((("table", "b"), True),)), what_of, SMALL, ELSEWHERE)

    def test_each_deed(self):
        chance = Chance(22)
        for web in [SMALL, *(made_web(chance, 9) for _ in range(20))]:
            for name, knows, what in web:
                self.tells(knows, knows_of, web, name)
                self.tells(what, what_of, web, name)

    def test_no_web(self):
        for thing in WRONG_WEBS:
            for name in (FIRST, None):
                self.refused(NoWeb, knows_of, thing, name)
                self.refused(NoWeb, what_of, thing, name)

    def test_lacking(self):
        for name in [*NO_NAMES, STRANGE, ("a", 7, "main", 8), ("b", 7, "main", 9), ("a", 6, "main", 9)]:
            for web in (SMALL, BEHIND, ()):
                self.lacks(Lacking, name, knows_of, web, name)
                self.lacks(Lacking, name, what_of, web, name)


if __name__ == "__main__":
    unittest.main()
