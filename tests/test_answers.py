"""Stage 4, promise 9: what a question tells on a state."""

import unittest

from forkrolls.asks.answers import answer
from forkrolls.errors import NoQuestion, NoState, TooWide
from tests import plain_asks
from tests.grids import (
    AGAIN, ANN, BOB, BOOKS, EMMA, LAST, LIBRARY, LOANS, NAMELESS, NONE, ODD, PERSUAS, ROLL, by_text, cases, grid,
    in_all, row, state_of, within)
from tests.test_questions import WRONG_QUESTIONS
from tests.test_states import WRONG_STATES, made_state
from tests.things import Case, Chance

ALL = (EMMA, PERSUAS, AGAIN, NAMELESS, ODD)
A, B = ("roll", "a"), ("roll", "b")


def called(question, old, new):
    return ("call", question, old, new)


class Answers(Case):
    def answers(self, question, *rows, state=LIBRARY):
        self.tells(by_text(*rows), answer, state, question)
        self.assertEqual(by_text(*rows), plain_asks.answer(state, question))


class ByHand(Answers):
    def test_roll(self):
        self.answers(ROLL, *ALL)
        self.answers(LOANS, ANN, BOB, NONE, LAST)
        self.answers(("roll", "nowhere"))
        self.answers(ROLL, state=())
        self.answers(ROLL, state=tuple(pair for pair in LIBRARY if pair[0] != ("table", "books")))
        self.answers(ROLL, row(key=0), row(key=7), state=state_of(grid("books", ("x",), [(0, []), (7, [])])))

    def test_broken_columns(self):
        # One called otherwise than its slot, one that is out, cells of the wrong kind.
        broken = state_of(BOOKS, [(("name", "books", (0, "main", 0)), "other"),
                                  (("kind", "books", (0, "main", 2)), "word")])
        self.answers(ROLL, row(key=1, year=1815), row(key=2, year=1817), row(key=5, year=1900), row(key=10, year=1815),
                     row(key=11, year="odd"), state=broken)
        out = tuple(pair for pair in LIBRARY if pair[0] != ("column", "books", (0, "main", 1)))
        self.answers(("where", ROLL, "title", "is", "odd"), row(key=11, title="odd", many=1), state=out)

    def test_where(self):
        for qname, sign, value, rows in [
                ("title", "is", "emma", [EMMA, AGAIN]), ("title", "not", "emma", [PERSUAS, ODD]),
                ("title", "is", 0, []),
                ("title", "not", 0, [EMMA, PERSUAS, AGAIN, ODD]), ("year", "is", 1815, [EMMA, NAMELESS]),
                ("year", "not", 1815, [PERSUAS, AGAIN, ODD]), ("year", "below", 1817, [EMMA, NAMELESS]),
                ("year", "above", 1815, [PERSUAS, AGAIN]), ("year", "below", "odd", []), ("year", "above", "a", []),
                ("title", "above", "a", []), ("title", "below", 10 ** 9, []), ("many", "below", 1, [AGAIN]),
                ("many", "is", 1, [PERSUAS, ODD]), ("key", "above", 2, [AGAIN, NAMELESS, ODD]),
                ("key", "is", 2, [PERSUAS]),
                ("who", "is", "ann", []), ("who", "not", "ann", []), ("year", "above", -(10 ** 9), ALL[:4])]:
            self.answers(("where", ROLL, qname, sign, value), *rows)

    def test_same(self):
        self.answers(("same", ROLL, "title", "year"), ODD)
        self.answers(("same", ROLL, "year", "title"), ODD)
        self.answers(("same", ROLL, "title", "title"), EMMA, PERSUAS, AGAIN, ODD)
        self.answers(("same", ROLL, "title", "who"))
        self.answers(("same", ROLL, "who", "who"))
        self.answers(("same", LOANS, "key", "many"), ANN)

    def test_a_number_and_a_text_are_never_alike(self):
        state = state_of(grid("a", ("x", "y"), [(0, (0, "x")), (1, ("one", 1)), (2, (2, 2))]))
        self.answers(("same", A, "x", "y"), row(key=2, x=2, y=2), state=state)
        self.answers(("same", A, "key", "x"), row(key=0, x=0, y="x"), row(key=2, x=2, y=2), state=state)

    def test_keep(self):
        self.answers(("keep", ROLL, ("title", "year")), row(title="emma", year=1815), row(title="persuas", year=1817),
                     row(title="emma", year=1900), row(year=1815), row(title="odd", year="odd"))
        self.answers(("keep", ROLL, ("title",)), row(title="emma"), row(title="persuas"), row(), row(title="odd"))
        self.answers(("keep", ROLL, ()), row())
        self.answers(("keep", ROLL, ("who",)), row())
        self.answers(("keep", ("roll", "nowhere"), ()))
        self.answers(("keep", ROLL, ("key",)), *(row(key=each) for each in (1, 2, 5, 10, 11)))

    def test_call(self):
        self.answers(called(ROLL, "title", "name"), *(
            row(**{"name" if name == "title" else name: part for name, part in each}) for each in ALL))
        self.answers(called(ROLL, "title", "year"), *ALL[:3], NAMELESS, ODD)
        self.answers(called(ROLL, "who", "name"), *ALL)
        self.answers(called(("where", LOANS, "who", "is", "ann"), "many", "last"),
                     row(key=1, title="emma", who="ann", last=1), NONE)
        # Whose rows have the new name already stay, those that have not take it: here they come to one.
        state = state_of(grid("a", ("x", "y"), [(0, (1, None)), (1, (None, 1)), (2, (3, 4))]))
        self.answers(called(("keep", A, ("x", "y")), "x", "y"), row(y=1), row(x=3, y=4), state=state)
        self.answers(called(A, "key", "aaa"), row(aaa=0, x=1), row(aaa=1, y=1), row(aaa=2, x=3, y=4), state=state)

    def test_join(self):
        loans = called(called(LOANS, "key", "loan"), "many", "lent")
        ann, bob = {"loan": 1, "who": "ann", "lent": 1}, {"loan": 2, "who": "bob", "lent": -4}
        none, last = {"loan": 3, "who": "ann"}, {"loan": 7, "who": "odd", "lent": 10 ** 9}
        # The nameless book goes with each loan: they have no qname in common.
        nameless = [row(**dict(NAMELESS), **loan, title=title)
                    for loan, title in [(ann, "emma"), (bob, "emma"), (none, "none"), (last, "odd")]]
        self.answers(("join", ROLL, loans), *nameless, row(**dict(ODD), **last),
                     *(row(**dict(book), **loan) for book in (EMMA, AGAIN) for loan in (ann, bob)))
        self.answers(("join", ROLL, ROLL), *ALL)
        self.answers(("join", ROLL, LOANS))
        self.answers(("join", ("keep", ROLL, ("year",)), ("keep", LOANS, ("who",))), *(
            row(year=year, who=who) for year in (1815, 1817, 1900, "odd") for who in ("ann", "bob", "odd")))
        self.answers(("join", ROLL, ("roll", "nowhere")))
        self.answers(("join", ("keep", ROLL, ()), LOANS), ANN, BOB, NONE, LAST)

    def test_join_wherever_both_have_a_qname(self):
        # Of three rows with x, y, neither: each goes with those of the others that have not what they have otherwise.
        one = grid("a", ("x", "y"), [(0, (1, None)), (1, (None, 1)), (2, (None, None))])
        two = grid("b", ("x", "y"), [(0, (1, 1)), (1, (2, None)), (2, (None, 2))])
        left, right = called(A, "key", "a"), called(B, "key", "b")
        for question in (("join", left, right), ("join", right, left)):
            self.answers(question, row(a=0, b=0, x=1, y=1), row(a=0, b=2, x=1, y=2), row(a=1, b=0, x=1, y=1),
                         row(a=1, b=1, x=2, y=1), row(a=2, b=0, x=1, y=1), row(a=2, b=1, x=2), row(a=2, b=2, y=2),
                         state=state_of(one, two))

    def test_either_and_but(self):
        emmas, early = ("where", ROLL, "title", "is", "emma"), ("where", ROLL, "year", "is", 1815)
        self.answers(("either", emmas, early), EMMA, AGAIN, NAMELESS)
        self.answers(("either", ROLL, LOANS), *ALL, ANN, BOB, NONE, LAST)
        self.answers(("but", emmas, early), AGAIN)
        self.answers(("but", early, emmas), NAMELESS)
        self.answers(("but", ROLL, ROLL))
        self.answers(("but", ROLL, LOANS), *ALL)
        self.answers(("but", ("roll", "nowhere"), ROLL))
        self.answers(("but", ROLL, ("roll", "nowhere")), *ALL)

    def test_count(self):
        self.answers(("count", ROLL, ("title",), "n"), row(title="emma", n=2), row(title="persuas", n=1), row(n=1),
                     row(title="odd", n=1))
        self.answers(("count", ROLL, (), "n"), row(n=5))
        self.answers(("count", ROLL, ("who",), "key"), row(key=5))
        self.answers(("count", ("roll", "nowhere"), (), "n"))
        self.answers(("count", ("where", ROLL, "who", "is", 1), ("title",), "n"))
        self.answers(("count", ROLL, ("title", "year"), "n"), state=())
        self.answers(("count", ("keep", ROLL, ("title",)), (), "key"), row(key=4))

    def test_sum(self):
        self.answers(("sum", ROLL, ("title",), "many", "n"), row(title="emma", n=2), row(title="persuas", n=1),
                     row(n=3),
                     row(title="odd", n=1))
        self.answers(("sum", ROLL, (), "year", "year"), row(year=1815 + 1817 + 1900 + 1815))
        self.answers(("sum", ROLL, (), "title", "n"), row(n=0))
        self.answers(("sum", ROLL, ("title",), "title", "n"),
                     *(row(title=title, n=0) for title in ("emma", "persuas", "odd")),
                     row(n=0))
        self.answers(("sum", ROLL, (), "who", "n"), row(n=0))
        self.answers(("sum", ("roll", "nowhere"), (), "many", "n"))
        self.answers(("sum", LOANS, ("title",), "many", "many"), row(title="emma", many=-3), row(title="none", many=0),
                     row(title="odd", many=10 ** 9))
        self.answers(("sum", ROLL, ("year",), "year", "n"), row(year=1815, n=3630), row(year=1817, n=1817),
                     row(year=1900, n=1900), row(year="odd", n=0))

    def test_sums_far_above_and_below(self):
        for value in (10 ** 9, -(10 ** 9)):
            state = state_of(grid("a", ("x",), [(key, (value,)) for key in range(400)]))
            total = ("sum", A, (), "x", "x")
            self.answers(total, row(x=400 * value), state=state)
            self.answers(("where", total, "x", "above" if value > 0 else "below", value), row(x=400 * value),
                         state=state)
            self.answers(("where", total, "x", "is", value), state=state)
            tens = ("join", ("keep", A, ("key",)), total)
            self.answers(("sum", tens, (), "x", "y"), row(y=160000 * value), state=state)

    def test_rows_by_text(self):
        state = state_of(grid("a", ("x",), [(key, (value,)) for key,
                                            value in enumerate([10, 9, -1, "z", "a", 100, 0])]))
        self.tells((row(x="a"), row(x="z"), row(x=-1), row(x=0), row(x=10), row(x=100), row(x=9)),
                   answer, state, ("keep", A, ("x",)))

    def test_within_one_another(self):
        question = ("sum", ("count", ("keep", ("join", ("where", ROLL, "year", "above", 1), ("either", ROLL, LOANS)),
                                      ("title", "year")), ("title",), "n"), (), "n", "n")
        self.answers(question, row(n=4))
        self.answers(within(8, ROLL), *(row(key=each) for each in (1, 2, 5, 10, 11)))
        self.answers(in_all(39), *(row(key=each) for each in (1, 2)), state=state_of(grid("a", (), [(1, ()), (2, ())])))
        self.answers(in_all(40), row(), state=state_of(grid("a", (), [(1, ()), (2, ())])))


class AsPlainly(Answers):
    def test_made(self):
        told = 0
        for state, question in cases(121, 500):
            self.tells(plain_asks.answer(state, question), answer, state, question)
            told += answer(state, question) != ()
        self.assertGreater(told, 200)

    def test_any_states(self):
        chance = Chance(122)
        for _, question in cases(123, 100):
            state = made_state(chance, 20)
            self.tells(plain_asks.answer(state, question), answer, state, question)

    def test_another_state_asked_between(self):
        other = state_of(grid("books", ("title",), [(1, ("other",))]))
        for _ in range(2):
            self.answers(("keep", ROLL, ("title",)), row(title="other"), state=other)
            self.answers(("keep", LOANS, ("who",)), row(who="ann"), row(who="bob"), row(who="odd"))
            self.answers(ROLL, *ALL)


def wide(many, table="a"):
    return grid(table, ("x",), [(key, (key % 3,)) for key in range(many)])


class Wide(Case):
    def test_400_and_401_rows(self):
        for many in (400, 401):
            state = state_of(wide(many))
            for question, rows in [
                    (A, many), (("count", A, (), "n"), 1), (("keep", A, ("x",)), 3), (("where", A, "key", "is", 5), 1),
                    (("but", A, A), 0), (("but", B, A), 0), (("either", A, A), many), (("join", A, B), 0),
                    (("join", B, A), 0),
                    (("sum", ("where", A, "x", "is", "none"), (), "x", "x"), 0), (("same", A, "x", "y"), 0),
                    (("either", B, ("call", A, "x", "y")), many)]:
                if many == 400:
                    self.assertEqual(len(answer(state, question)), rows, question)
                else:
                    self.refused(TooWide, answer, state, question)

    def test_more_within_than_about_it(self):
        state = state_of(wide(20), wide(21, "b"))
        both = ("join", ("keep", A, ("key",)), ("call", ("keep", A, ("key",)), "key", "other"))
        self.assertEqual(len(answer(state, both)), 400)
        self.assertEqual(answer(state, ("count", both, (), "n")), (row(n=400),))
        more = ("join", ("keep", B, ("key",)), ("call", ("keep", A, ("key",)), "key", "other"))
        for question in (more, ("count", more, (), "n"), ("where", more, "key", "is", "none"), ("keep", more, ()),
                         ("but", A, more), ("but", more, more), ("join", ("roll", "nowhere"), more)):
            self.refused(TooWide, answer, state, question)

    def test_either(self):
        state = state_of(wide(200), wide(400, "b"))
        other = ("call", A, "x", "z")
        self.assertEqual(len(answer(state, ("either", A, other))), 400)
        self.assertEqual(len(answer(state, ("either", A, B))), 400)
        self.refused(TooWide, answer, state, ("either", other, B))
        self.refused(TooWide, answer, state, ("where", ("either", other, B), "key", "is", 5))

    def test_join_of_great_ones(self):
        one = grid("a", ("x", "y"), [(key, (key, "y")) for key in range(400)])
        two = grid("b", ("x", "z"), [(key, (399 - key if key < 4 else 500 + key, "z")) for key in range(400)])
        state = state_of(one, two)
        few = ("join", ("call", A, "key", "a"), ("call", B, "key", "b"))
        self.tells(by_text(*(row(a=399 - key, b=key, x=399 - key, y="y", z="z") for key in range(4))), answer, state,
                   few)
        every = ("join", few, ("join", few, few))
        self.tells(answer(state, few), answer, state, every)
        self.refused(TooWide, answer, state, ("join", ("call", A, "x", "u"),
                                              ("call", ("call", B, "x", "v"), "key", "w")))

    def test_join_of_rows_with_unlike_qnames(self):
        names = [chr(ord("a") + at) for at in range(9)]
        rows = [(key, [1 if key >> at & 1 else None for at in range(9)]) for key in range(400)]
        state = state_of(grid("a", names, rows))
        question = A
        for _ in range(4):
            question = ("join", question, question)
        self.assertEqual(answer(state, question), answer(state, A))


class Refused(Case):
    def test_each(self):
        self.refuses_each(answer, (LIBRARY, ROLL), (NoState, WRONG_STATES), (NoQuestion, WRONG_QUESTIONS))
        self.refuses_each(answer, (state_of(wide(401)), A), (NoState, WRONG_STATES), (NoQuestion, WRONG_QUESTIONS))


if __name__ == "__main__":
    unittest.main()
