"""Stage 5, promises 3 to 6 and 10: rules, kept and broken, of one lot and of two together."""

import unittest

from forkrolls.asks.rules import kept_or_broken, kept_together, shows_rule
from forkrolls.asks.sure import order_with, perhaps, sure
from forkrolls.errors import NoLot, NoNumber, NoQuestion, NoWeb, TooWide
from forkrolls.worlds.ways import ways_of
from tests import plain, plain_asks
from tests.knots import apart, whole, written
from tests.looms import SMALL, WHOLE, WRONG_LOTS, WRONG_NUMBERS, WRONG_WEBS, web_of
from tests.shops import A, LEFT, MAIN, QUESTIONS, RIGHT, THIRD, few_orders, lots_of, parted, put, row, shop, wovens
from tests.test_questions import WRONG_QUESTIONS
from tests.test_sure import GROUND, rows_done
from tests.things import ANYTHING, Case, bent

KEPT = ("kept",)
FIVES = ("where", A, "x", "is", 5)
NONE = ("where", A, "x", "above", 100)
# No x, no y may be there as often as this.
COUNTS = [("where", ("count", A, (name,), "n"), "n", "above", count) for name in ("x", "y") for count in (1, 2)]
COUNTS += [("where", ("count", A, (), "n"), "n", sign, 3) for sign in ("above", "below")]
COUNTS += [("where", ("sum", A, (), "x", "s"), "s", "above", number) for number in (4, 10 ** 9)]
# More than one row with one x.
TWICE = ("where", ("count", A, ("x",), "n"), "n", "above", 1)


def shows(web, lot, rule, thing):
    """By the words of point [24]: any row that the plain store tells by the order, or that there is none."""
    ends = plain.ends(web, lot)
    if not any(plain_asks.answer(state, rule) for state in ends):
        return type(thing) is tuple and len(thing) == 1 and type(thing[0]) is str and thing[0] == "kept"
    return plain.row_of(thing, plain.word("broken"), plain_asks.row, lambda part: plain.order(web, lot, part)) and \
        thing[1] in plain_asks.answer(plain.state_by(web, thing[2]), rule)


class RuleCase(Case):
    def told_of(self, wanted, web, lot, rule, **more):
        """Whether it is told to be kept or broken; what is told can be."""
        found = self.told(kept_or_broken, web, lot, rule, **more)
        self.assertEqual(found[0], wanted)
        self.can_be(found, web, lot, rule)
        self.assertIs(self.told(shows_rule, web, lot, rule, found, **more), True)
        self.assertIs(self.told(shows_rule, web, lot, rule, KEPT, **more), wanted == "kept")
        return found

    def can_be(self, found, web, lot, rule):
        if found == KEPT:
            return
        word, told, order = found
        self.assertEqual(word, "broken")
        self.assertTrue(plain.order(web, lot, order))
        self.assertIn(told, plain_asks.answer(plain.state_by(web, order), rule))

    def together(self, wanted, web, one, other, rule, **more):
        found = self.told(kept_together, web, one, other, rule, **more)
        if wanted in ("kept", "broken"):
            self.assertEqual(found[0], wanted)
            both = tuple(sorted({*one, *other}))
            self.can_be(found, web, both, rule)
            self.assertIs(shows_rule(web, both, rule, found, **more), True)
        else:
            self.assertEqual(repr(found), repr(("ahead", wanted)))

    def too_wide(self, web, lot, rule, **more):
        self.refused(TooWide, kept_or_broken, web, lot, rule, **more)
        for thing in (KEPT, None, ("broken", (), ())):
            self.refused(TooWide, shows_rule, web, lot, rule, thing, **more)


class Rules(RuleCase):
    def test_by_hand(self):
        weaver = parted()
        web = weaver.web
        self.tells(KEPT, kept_or_broken, web, weaver.lots[MAIN], FIVES)
        self.told_of("broken", web, weaver.lots[LEFT], FIVES)
        self.told_of("kept", web, weaver.lots[RIGHT], FIVES)
        self.told_of("broken", web, weaver.both(LEFT, RIGHT), FIVES)
        self.told_of("kept", web, weaver.both(LEFT, RIGHT), NONE)
        self.told_of("broken", web, weaver.both(LEFT, RIGHT), A)
        self.told_of("broken", web, weaver.lots[MAIN], TWICE)
        self.told_of("kept", web, (), A)
        self.told_of("kept", (), (), A)
        self.told_of("broken", web, weaver.lots[MAIN], ("keep", A, ()))

    def test_broken_by_some_orders_alone(self):
        weaver = parted()
        web, lot = weaver.web, weaver.both(LEFT, RIGHT)
        fives = ("broken", row(key=1, x=5, y="one"))
        for order in plain.orders(web, lot):
            told = plain_asks.answer(plain.state_by(web, order), FIVES) != ()
            self.whether(told, shows_rule, web, lot, FIVES, (*fives, order))
            self.whether(not told, shows_rule, web, lot, ("where", A, "x", "is", "five"),
                         ("broken", row(key=1, x="five", y="one"), order))

    def test_as_plainly(self):
        asked = 0
        for weaver in wovens(161, 12, 6):
            web = weaver.web
            for lot in lots_of(weaver):
                if few_orders(web, lot, 200):
                    asked += 1
                    states = plain.ends(web, lot)
                    for rule in QUESTIONS[asked % 3::3]:
                        broken = any(plain_asks.answer(state, rule) for state in states)
                        self.told_of("broken" if broken else "kept", web, lot, rule, most=10 ** 4)
                        certain, maybe = sure(web, lot, rule, most=10 ** 4), perhaps(web, lot, rule, most=10 ** 4)
                        self.assertEqual(broken, bool(certain + maybe))
                        for each in (certain + maybe)[:3]:
                            thing = ("broken", each, order_with(web, lot, rule, each, most=10 ** 4))
                            self.assertIs(shows_rule(web, lot, rule, thing, most=10 ** 4), True)
        self.assertGreater(asked, 40)

    def test_another_web_asked_between(self):
        weaver = parted()
        lot = weaver.both(LEFT, RIGHT)
        for _ in range(2):
            self.told_of("broken", weaver.web, lot, FIVES)
            self.tells(KEPT, kept_or_broken, SMALL, WHOLE, FIVES)


class ShowsRule(RuleCase):
    def alike(self, web, lot, rule, thing):
        self.whether(shows(web, lot, rule, thing), shows_rule, web, lot, rule, thing)

    def test_anything_and_bent(self):
        weaver = parted()
        web, lot = weaver.web, weaver.both(LEFT, RIGHT)
        self.assertLessEqual(len(plain.orders(web, lot)), 6)
        found = kept_or_broken(web, lot, FIVES)
        ends = plain.ends(web, lot)
        self.assertEqual(len(ends), 2)
        row_told, order = found[1:]
        for thing in ANYTHING:
            self.whether(False, shows_rule, web, lot, FIVES, thing)
            self.whether(False, shows_rule, web, lot, NONE, thing)
            for each in (("broken", thing, order), ("broken", row_told, thing), (thing, row_told, order), (thing,),
                         ("kept", thing), ("broken", thing)):
                self.whether(False, shows_rule, web, lot, FIVES, each)
                self.whether(False, shows_rule, web, lot, NONE, each)
            self.whether(False, shows_rule, web, lot, FIVES, KEPT)
        for thing in bent(found):
            self.assertEqual(shows_rule(web, lot, FIVES, thing), shows_bent(web, lot, thing))
        for thing in bent(KEPT):
            self.whether(type(thing) is tuple and thing == KEPT, shows_rule, web, lot, NONE, thing)

    def test_one_thing_otherwise(self):
        weaver = parted()
        web, lot = weaver.web, weaver.both(LEFT, RIGHT)
        told = row(key=1, x=5, y="one")
        order = order_with(web, lot, FIVES, told)
        self.whether(True, shows_rule, web, lot, FIVES, ("broken", told, order))
        last = [name for name in order if name[1] != 0]
        swapped = order[:-len(last)] + tuple(last[::-1])
        for thing in [
                ("broken", told, list(order)), ("broken", list(told), order), ["broken", told, order],
                ("broken", told), ("broken", told, order, ()), ("kept", told, order), ("broken", told, order[:-1]),
                ("broken", told, order[1:] + order[:1]), ("broken", told, order + order[-1:]), ("broken", told, ()),
                ("broken", told[:-1], order), ("broken", told[::-1], order), ("broken", (), order),
                ("broken", row(key=1, x=1, y="one"), order), ("broken", row(key=True, x=5, y="one"), order),
                ("broken", (["key", 1],) + told[1:], order), ("Broken", told, order), (["broken"], told, order),
                ("broken", row(key=1, x="five", y="one"), order),
                ("broken", told, order[:-1] + ((order[-1][0], order[-1][1], order[-1][2], True),)),
                ("broken", told, swapped), KEPT, (), None]:
            self.whether(shows_bent(web, lot, thing), shows_rule, web, lot, FIVES, thing)
        self.assertFalse(shows_bent(web, lot, ("broken", told, order[:-1])))

    def test_truths_are_no_numbers(self):
        web = web_of(GROUND, (("a", 1, "x", 0), (), rows_done([1], x=1)))
        order = (("a", 0, "main", 0), ("a", 1, "x", 0))
        self.whether(True, shows_rule, web, whole(web), A, ("broken", row(key=1, x=1), order))
        for told, names in [(row(key=True, x=1), order), (row(key=1, x=True), order),
                            (row(key=1, x=1), (("a", False, "main", 0), order[1])),
                            (row(key=1, x=1), (order[0], ("a", True, "x", 0)))]:
            self.whether(False, shows_rule, web, whole(web), A, ("broken", told, names))

    def test_kept(self):
        for web, lot, rule in [((), (), A), (SMALL, WHOLE, FIVES), (parted().web, (), FIVES)]:
            self.whether(True, shows_rule, web, lot, rule, KEPT)
            for thing in (["kept"], "kept", ("kept", ()), ("broken", (), ()), ("broken",), (), ("Kept",), (None,),
                          (("kept",),), ("broken", row(key=1), plain.orders(web, lot)[0] if lot == () else ())):
                self.whether(False, shows_rule, web, lot, rule, thing)


def shows_bent(web, lot, thing):
    return shows(web, lot, FIVES, thing)


class Together(RuleCase):
    def test_by_hand(self):
        weaver = parted()
        web, lots = weaver.web, weaver.lots
        self.together(0, web, lots[LEFT], lots[RIGHT], FIVES)
        self.together(1, web, lots[RIGHT], lots[LEFT], FIVES)
        self.together(0, web, lots[LEFT], lots[THIRD], FIVES)
        self.together(0, web, lots[LEFT], lots[LEFT], FIVES)
        self.together("kept", web, lots[RIGHT], lots[MAIN], FIVES)
        self.together("kept", web, lots[LEFT], lots[RIGHT], NONE)
        self.together("kept", web, (), (), FIVES)
        self.together(1, web, (), lots[LEFT], FIVES)
        self.together(0, web, lots[LEFT], (), FIVES)

    def test_in_both_together_alone(self):
        # Each of two hands sets a row's x to 7: only together there are two of these.
        weaver = shop()
        weaver.do(LEFT, *put(1, x=7))
        weaver.do(RIGHT, *put(2, x=7))
        sevens = ("where", ("count", ("where", A, "x", "is", 7), (), "n"), "n", "above", 1)
        for one, other in ((LEFT, RIGHT), (RIGHT, LEFT)):
            self.together("broken", weaver.web, weaver.lots[one], weaver.lots[other], sevens)
        weaver.do(THIRD, *put(2, x=8))
        self.together("kept", weaver.web, weaver.lots[LEFT], weaver.lots[THIRD], sevens)
        self.together("broken", weaver.web, weaver.both(LEFT, THIRD), weaver.lots[RIGHT], sevens)

    def test_as_plainly(self):
        found = {}
        for weaver in wovens(162, 12, 5):
            web = weaver.web
            lots = [weaver.lots[LEFT], weaver.lots[RIGHT], weaver.lots[THIRD]]
            for one, other in ((lots[0], lots[1]), (lots[1], lots[2]), (lots[2], lots[0]), (lots[0], lots[0])):
                both = tuple(sorted({*one, *other}))
                if all(few_orders(web, lot, 150) for lot in (one, other, both)):
                    states = [plain.ends(web, lot) for lot in (one, other, both)]
                    for rule in [*QUESTIONS, *COUNTS]:
                        broken = [any(plain_asks.answer(state, rule) for state in each) for each in states]
                        wanted = 0 if broken[0] else 1 if broken[1] else "broken" if broken[2] else "kept"
                        self.together(wanted, web, one, other, rule, most=10 ** 4)
                        found[wanted] = found.get(wanted, 0) + 1
        self.assertEqual(sorted(found, key=repr), sorted([0, 1, "broken", "kept"], key=repr))


class Width(RuleCase):
    def test_ways(self):
        for web, many in [(apart(5, 5, 4, 2), 200), (apart(2, 2), 4), (apart(3), 3)]:
            lot = whole(web)
            self.assertEqual(len(ways_of(web, lot)), many)
            self.told_of("kept", web, lot, A, most=many)
            self.too_wide(web, lot, A, most=many - 1)
            self.tells(KEPT, kept_together, web, lot, lot, A, most=many)
            self.refused(TooWide, kept_together, web, lot, lot, A, most=many - 1)
            self.refused(TooWide, kept_together, web, lot, (), A, most=many - 1)
            self.refused(TooWide, kept_together, web, (), lot, A, most=many - 1)
        web = apart(201)
        self.too_wide(web, whole(web), A)

    def test_answers_too_wide_in_one_world(self):
        start = (("a", 1, "x", 0), (), rows_done(range(400)))
        for first, last in ((True, None), (None, True)):
            web = web_of(GROUND, start, (("a", 1, "y", 0), (), written((("row", "a", 400), first))),
                         (("a", 1, "z", 0), (), written((("row", "a", 400), last))))
            lot = whole(web)
            for rule in (A, FIVES, ("where", A, "key", "is", 400), ("keep", A, ())):
                self.too_wide(web, lot, rule)
            self.told_of("kept", web, lot, ("roll", "b"))

    def test_asked_in_turn(self):
        # START breaks the rule. One that is wide has three ways, where two are the most.
        start, other = ("a", 1, "x", 0), ("b", 1, "x", 0)
        wide = [(("c", 1, "x", number), (), written((("row", "c", 1), [True, None][number % 2])))
                for number in range(3)]
        web = web_of(GROUND, (start, (), rows_done([5])), (other, (), written((("table", "b"), True))), *wide)
        broken = tuple(sorted([GROUND[0], start]))
        spread = tuple(name for name in whole(web) if name[0] == "c")
        self.together(0, web, broken, spread, A, most=2)
        self.refused(TooWide, kept_together, web, spread, broken, A, most=2)
        self.refused(TooWide, kept_together, web, spread, (other,), A, most=2)
        self.refused(TooWide, kept_together, web, (other,), spread, A, most=2)
        self.together(1, web, (other,), broken, A, most=2)
        self.together(1, web, spread, broken, A, most=3)
        both = tuple(sorted(broken + spread))
        self.refused(TooWide, kept_together, web, both, broken, A, most=2)
        self.together(0, web, broken, both, A, most=2)
        # Neither is too wide, both together are.
        self.refused(TooWide, kept_together, web, spread[:2], spread[2:], A, most=2)
        self.together("kept", web, spread[:2], spread[2:], A, most=3)
        self.together("kept", web, spread[:2], spread[:1], A, most=2)

    def test_an_answer_too_wide_in_both_together_alone(self):
        one, other = ("a", 1, "x", 0), ("a", 2, "x", 0)
        web = web_of(GROUND, (one, (), rows_done(range(300))), (other, (), rows_done(range(250, 401))))
        lots = [tuple(sorted([GROUND[0], each])) for each in (one, other)]
        rule = ("where", A, "key", "is", 500)
        for each in lots:
            self.tells(KEPT, kept_or_broken, web, each, rule)
        self.refused(TooWide, kept_together, web, *lots, rule)
        self.refused(TooWide, kept_together, web, *lots[::-1], rule)
        self.tells(("ahead", 0), kept_together, web, *lots, A)


class Refused(Case):
    def test_each(self):
        wrong = (NoWeb, WRONG_WEBS), (NoLot, WRONG_LOTS), (NoQuestion, WRONG_QUESTIONS)
        for more in ({}, {"most": 0}):
            self.refuses_each(kept_or_broken, (SMALL, WHOLE, A), *wrong, **more)
            self.refuses_each(shows_rule, (SMALL, WHOLE, A, KEPT), *wrong, **more)
            self.refuses_each(kept_together, (SMALL, WHOLE, (), A), wrong[0], wrong[1], wrong[1], wrong[2], **more)

    def test_no_number(self):
        wide = apart(*[6] * 50)
        for thing in WRONG_NUMBERS:
            for web in (SMALL, wide, ()):
                self.refused(NoNumber, kept_or_broken, web, whole(web), A, most=thing)
                self.refused(NoNumber, shows_rule, web, whole(web), A, None, most=thing)
                self.refused(NoNumber, kept_together, web, whole(web), (), A, most=thing)

    def test_most_by_name_alone(self):
        for function, handed in ((kept_or_broken, ()), (shows_rule, (KEPT,)), (kept_together, ())):
            lots = (WHOLE,) * (2 if function is kept_together else 1)
            with self.assertRaises(TypeError):
                function(SMALL, *lots, A, *handed, 200)


if __name__ == "__main__":
    unittest.main()
