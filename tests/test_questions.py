"""Stage 4, promises 8 and 10: questions, rows, the tables of a question, simple questions."""

import unittest

from forkrolls.asks.questions import is_question, is_row, tables_in
from forkrolls.asks.whence import is_simple
from forkrolls.errors import NoQuestion
from tests import plain_asks
from tests.grids import cases, in_all, row, within
from tests.things import ANYTHING, GREAT, IDENT, Case, bent, deep

ROLL = ("roll", "a")
QUESTIONS = [
    ROLL, ("roll", "abcdefgh"), ("where", ROLL, "x", "is", 5), ("where", ROLL, "key", "not", "key"),
    ("where", ROLL, "x", "below", -(10 ** 9)), ("where", ROLL, "x", "above", 10 ** 9), ("same", ROLL, "x", "y"),
    ("same", ROLL, "x", "x"), ("same", ROLL, "key", "x"), ("keep", ROLL, ()), ("keep", ROLL, ("key",)),
    ("keep", ROLL, ("a", "b", "c", "d", "e", "key")), ("call", ROLL, "x", "y"), ("call", ROLL, "key", "y"),
    ("call", ROLL, "x", "key"), ("join", ROLL, ROLL), ("either", ROLL, ("roll", "b")),
    ("but", ROLL, ("keep", ROLL, ())),
    ("count", ROLL, (), "x"), ("count", ROLL, ("x", "y"), "key"), ("sum", ROLL, (), "x", "y"),
    ("sum", ROLL, (), "x", "x"),
    ("sum", ROLL, ("x",), "x", "y"), ("sum", ROLL, ("a", "b", "c", "d", "e", "f"), "key", "key")]
NO_QUESTIONS = [
    ("roll",), ("roll", "key"), ("roll", "A"), ("roll", "a", ()), ("roll", ROLL), ("roll", None), ("Roll", "a"), ("a",),
    ("a", "roll"),
    ("where", ROLL, "x", "is"), ("where", ROLL, "x", "is", None), ("where", ROLL, "x", "is", True),
    ("where", ROLL, "x", "is", 5, 5),
    ("where", ROLL, "x", "like", 5), ("where", ROLL, "x", "is", 10 ** 9 + 1), ("where", ROLL, "x", "is", "A"),
    ("where", ROLL, 5, "is", 5),
    ("where", ROLL, "abcdefghi", "is", 5), ("where", "a", "x", "is", 5), ("where", ROLL, ("x",), "is", 5),
    ("where", ROLL, "x", ("is",), 5), ("where", ROLL, "x", None, 5), ("where", None, "x", "is", 5),
    ("where", (), "x", "is", 5),
    ("same", ROLL, "x"), ("same", ROLL, "x", "y", "z"), ("same", ROLL, "x", 5), ("same", ROLL, ("x", "y")),
    ("same", "x", "y", "z"),
    ("keep", ROLL), ("keep", ROLL, "x"), ("keep", ROLL, ["x"]), ("keep", ROLL, ("y", "x")), ("keep", ROLL, ("x", "x")),
    ("keep", ROLL, ("a", "b", "c", "d", "e", "f", "g")), ("keep", ROLL, (5,)), ("keep", ROLL, ("x", ())),
    ("keep", ROLL, ("",)),
    ("keep", ROLL, ("x",), ()), ("keep", ("x",), ROLL), ("keep", ROLL, None), ("keep", ROLL, (True,)),
    ("call", ROLL, "x", "x"), ("call", ROLL, "x"), ("call", ROLL, "x", "A"), ("call", ROLL, "key", "key"),
    ("call", ROLL, "x", "y", "z"),
    ("join", ROLL), ("join", ROLL, "a"), ("join", ROLL, ROLL, ROLL), ("join", ROLL, ()), ("join",),
    ("either", ROLL, None),
    ("but", None, ROLL), ("but", ROLL, ("x",)), ("join", ROLL, list(ROLL)), ("join", list(ROLL), ROLL),
    ("count", ROLL, ("x",), "x"), ("count", ROLL, ()), ("count", ROLL, "x", "y"), ("count", ROLL, ("x",), 5),
    ("count", ROLL, (), "x", "y"),
    ("count", ROLL, ("y", "x"), "z"), ("count", ROLL, [], "z"),
    ("sum", ROLL, ("x",), "y", "x"), ("sum", ROLL, ("x",), "x", "x"), ("sum", ROLL, (), "x"),
    ("sum", ROLL, "x", "y", "z"), ("sum", ROLL, (), 5, "x"),
    ("sum", ROLL, (), "x", None), ("sum", ROLL, ("y", "x"), "x", "z"), ("sum", ROLL, (), "x", "y", "z"),
    ("", ROLL), (None, ROLL), (["roll"], "a"), ({}, "a"), list(ROLL), {"roll": "a"}, ((ROLL,),), (ROLL,), (ROLL, ROLL)]
WRONG_QUESTIONS = NO_QUESTIONS + [thing for thing in ANYTHING if not plain_asks.question(thing)] + [
    within(9), in_all(41), ("keep", within(8), ()), ("join", in_all(21), in_all(20))]


class Questions(Case):
    def test_questions(self):
        for thing in QUESTIONS:
            self.whether(True, is_question, thing)

    def test_no_questions(self):
        for thing in WRONG_QUESTIONS:
            self.whether(False, is_question, thing)

    def test_inside_others(self):
        for thing in [*QUESTIONS, *NO_QUESTIONS]:
            for each in (("keep", thing, ()), ("join", ("roll", "b"), thing), ("but", thing, ("roll", "b")),
                         ("sum", ("where", thing, "x", "is", 1), (), "x", "x"), ("roll", thing)):
                self.whether(plain_asks.question(each), is_question, each)

    def test_anything_and_bent(self):
        for thing in QUESTIONS:
            for each in bent(thing):
                self.whether(plain_asks.question(each), is_question, each)
            for at in range(len(thing)):
                for part in ANYTHING:
                    each = thing[:at] + (part,) + thing[at + 1:]
                    self.whether(plain_asks.question(each), is_question, each)

    def test_within_one_another(self):
        for many in range(1, 12):
            for inner in (ROLL, ("roll", "key")):
                wanted = many <= 8 and inner == ROLL
                self.whether(wanted, is_question, within(many, inner))
                self.whether(wanted and many < 8, is_question, ("join", ROLL, within(many, inner)))
                self.whether(wanted and many < 8, is_question, ("join", within(many, inner), ROLL))

    def test_in_all(self):
        for many in range(1, 64):
            self.assertEqual(plain_asks.asked(in_all(many)), many)
            self.whether(many <= 40, is_question, in_all(many))
        full = ROLL
        for _ in range(7):
            full = ("join", full, full)
        self.whether(False, is_question, full)
        self.whether(True, is_question, full[1][1][1])
        self.whether(False, is_question, full[1][1])

    def test_far_deeper_and_far_wider(self):
        endless = ROLL
        for _ in range(20000):
            endless = ("join", endless, endless)
        for thing in (within(20000), endless, ("keep", ROLL, ("x",) * 100000), ("roll",) * 100000, (ROLL,) * 100000,
                      ("keep", within(7), ((),) * 100000)):
            for _ in range(2):
                self.assertIs(is_question(thing), False)
                self.assertIs(is_simple(thing), False)
                self.assertIs(is_row(thing), False)
                with self.assertRaises(NoQuestion):
                    tables_in(thing)
        for kind in ("row", "list", "dict"):
            for thing in (deep(kind), (deep(kind),), ("keep", deep(kind), ()), ("keep", ROLL, deep(kind)),
                          ("roll", deep(kind))):
                self.whether(False, is_question, thing)


class Rows(Case):
    def test_rows(self):
        for thing in [(), row(key=1), row(x="x"), row(a=0, key="key", z=-5), row(x=GREAT), row(x=-GREAT),
                      row(x=10 ** 300), row(**{"a" * at: at for at in range(1, 9)})]:
            self.whether(True, is_row, thing)

    def test_no_rows(self):
        for thing in [(("x", True),), (("x", None),), (("x", ""),), (("x", "abcdefghi"),), (("x", "A"),), (("x", ()),),
                      (("x", 1), ("x", 2)), (("x", 1), ("x", 1)), (("y", 1), ("x", 1)), (("x",),), (("x", 1, 1),),
                      ("x", 1),
                      ((1, 1),), ((None, 1),), (("abcdefghi", 1),), [("x", 1)], (["x", 1],), {"x": 1}, (("x", [1]),),
                      (("x", 1), None), (IDENT,), ((("x",), 1),)]:
            self.whether(False, is_row, thing)

    def test_anything_and_bent(self):
        for thing in [*ANYTHING, *bent(row(key=1, x="x", y=-5)), *bent(row(x=0))]:
            for each in (thing, (thing,), (("x", thing),), ((thing, 1),), (("a", 1), thing), (thing, ("z", 1))):
                self.whether(plain_asks.row(each), is_row, each)


class Tables(Case):
    def test_by_hand(self):
        self.tells(("a",), tables_in, ROLL)
        self.tells(("a", "b"), tables_in, ("join", ("roll", "b"), ("keep", ROLL, ())))
        self.tells(("a", "b", "c"), tables_in, ("but", ("either", ("roll", "c"), ("roll", "a")),
                                                ("join", ("roll", "b"), ROLL)))
        self.tells(("a",), tables_in, ("sum", ("join", ROLL, ROLL), ("b",), "c", "d"))
        self.tells(("a",), tables_in, within(8))

    def test_as_plainly(self):
        for _, question in cases(111, 200):
            self.whether(plain_asks.question(question), is_question, question)
            self.tells(tuple(sorted(plain_asks.tables_in(question))), tables_in, question)
            self.whether(plain_asks.simple(question), is_simple, question)

    def test_refused(self):
        for thing in WRONG_QUESTIONS:
            self.refused(NoQuestion, tables_in, thing)


class Simple(Case):
    def test_by_word(self):
        for thing in QUESTIONS:
            wanted = thing[0] not in ("but", "count", "sum")
            self.whether(wanted, is_simple, thing)
            self.whether(wanted, is_simple, ("keep", ("join", ROLL, thing), ("key",)))
            self.whether(wanted, is_simple, ("either", thing, ROLL))
            self.whether(False, is_simple, ("count", thing, (), "x"))

    def test_no_questions(self):
        for thing in WRONG_QUESTIONS:
            self.whether(False, is_simple, thing)
        for thing in [each for question in QUESTIONS for each in bent(question)]:
            self.whether(plain_asks.simple(thing), is_simple, thing)


if __name__ == "__main__":
    unittest.main()
