"""Stage 6, promise 8: texts of places, deeds, names, questions and rows, written and read back."""

import unittest

from forkrolls.errors import NoDeed, NoName, NoPlace, NoQuestion, NoRow, NoText
from forkrolls.words.texts import (
    deed_text, name_text, place_text, question_text, read_deed, read_name, read_place, read_question, read_row,
    row_text)
from tests import plain_asks, plain_words
from tests.grids import QNAMES, in_all, made_question, within
from tests.knots import WRONG_PLACES
from tests.looms import NO_NAMES
from tests.test_forms import WRONG_DEEDS
from tests.test_places import PLACES
from tests.test_questions import WRONG_QUESTIONS
from tests.test_whence import WRONG_ROWS
from tests.things import ANYTHING, IDENT, OTHER, Case, Chance
from tests.weaver import any_deed, woven

SIGNS = [chr(code) for code in range(32, 127)] + ["\n"]
FEW_SIGNS = list(" ()-=,./+_0129azAZ~") + ["\n", "\t", "key", "  "]

PLACE_TEXTS = [
    (("table", "books"), "table books"), (("column", "books", IDENT), "column books 0.main.3"),
    (("name", "books", OTHER), "name books 7.abcdefgh.1000000"), (("slot", "books", "title"), "slot books title"),
    (("kind", "books", IDENT), "kind books 0.main.3"), (("else", "books", IDENT), "else books 0.main.3"),
    (("row", "books", 5), "row books 5"), (("row", "table", 0), "row table 0"),
    (("cell", "books", 10 ** 9, IDENT), "cell books 1000000000 0.main.3"), (("slot", "slot", "slot"), "slot slot slot")]
DEED_TEXTS = [
    (("table", "books"), "table books"), (("column", "books", "title", "word", None), "column books title word -"),
    (("column", "books", "title", "any", 0), "column books title any 0"),
    (("column", "books", "title", "number", "none"), "column books title number none"),
    (("column", "books", "title", "number", -(10 ** 9)), "column books title number -1000000000"),
    (("call", "books", IDENT, "name"), "call books 0.main.3 name"),
    (("kind", "books", IDENT, "any"), "kind books 0.main.3 any"),
    (("else", "books", IDENT, None), "else books 0.main.3 -"), (("else", "books", IDENT, -7), "else books 0.main.3 -7"),
    (("else", "books", OTHER, "key"), "else books 7.abcdefgh.1000000 key"),
    (("put", "books", 5, ()), "put books 5 -"), (("put", "books", 5, ((IDENT, "emma"),)), "put books 5 0.main.3=emma"),
    (("put", "books", 5, ((IDENT, -1), (OTHER, "key"))), "put books 5 0.main.3=-1 7.abcdefgh.1000000=key"),
    (("blank", "books", 5, IDENT), "blank books 5 0.main.3"), (("drop", "books", 0), "drop books 0"),
    (("leave", "books", IDENT), "leave books 0.main.3"), (("end", "books"), "end books"),
    (("undo", "books", 1, "mine", 0), "undo books/1.mine.0")]
A, B = ("roll", "a"), ("roll", "b")
QUESTION_TEXTS = [
    (A, "(roll a)"), (("where", A, "key", "is", -5), "(where (roll a) key is -5)"),
    (("where", A, "x", "not", "key"), "(where (roll a) x not key)"),
    (("where", A, "x", "below", 10 ** 9), "(where (roll a) x below 1000000000)"),
    (("where", A, "x", "above", 0), "(where (roll a) x above 0)"), (("same", A, "x", "x"), "(same (roll a) x x)"),
    (("keep", A, ()), "(keep (roll a) -)"), (("keep", A, ("key",)), "(keep (roll a) key)"),
    (("keep", A, ("roll", "title")), "(keep (roll a) roll,title)"), (("keep", A, ("roll",)), "(keep (roll a) roll)"),
    (("keep", A, ("a", "b", "c", "d", "e", "f")), "(keep (roll a) a,b,c,d,e,f)"),
    (("call", A, "x", "key"), "(call (roll a) x key)"), (("join", A, B), "(join (roll a) (roll b))"),
    (("either", A, B), "(either (roll a) (roll b))"), (("but", B, A), "(but (roll b) (roll a))"),
    (("count", A, (), "n"), "(count (roll a) - n)"), (("count", A, ("key", "x"), "n"), "(count (roll a) key,x n)"),
    (("sum", A, (), "x", "x"), "(sum (roll a) - x x)"), (("sum", A, ("y",), "x", "n"), "(sum (roll a) y x n)"),
    (("roll", "roll"), "(roll roll)"),
    (("where", ("keep", ("join", A, ("call", B, "x", "y")), ("x", "y")), "x", "is", 1),
     "(where (keep (join (roll a) (call (roll b) x y)) x,y) x is 1)")]
ROW_TEXTS = [
    ((), "()"), ((("key", 5),), "key=5"), ((("key", 5), ("title", "emma")), "key=5,title=emma"),
    ((("a", -1), ("b", "key"), ("key", 0)), "a=-1,b=key,key=0"), ((("n", 10 ** 60),), "n=1" + "0" * 60),
    ((("n", -(10 ** 18)),), "n=-1" + "0" * 18), ((("n", 10 ** 18 - 1),), "n=" + "9" * 18),
    ((("n", 10 ** 36 + 5),), "n=1" + "0" * 35 + "5")]
NAME_TEXTS = [(("books", 1, "mine", 0), "books/1.mine.0"), (("a", 7, "abcdefgh", 10 ** 6), "a/7.abcdefgh.1000000")]


def out_and_more(text):
    """The text with one sign out, one more, one exchanged, two exchanged for one another."""
    for at in range(len(text) + 1):
        for sign in FEW_SIGNS:
            yield text[:at] + sign + text[at:]
            yield text[:at] + sign + text[at + 1:]
        yield text[:at] + text[at + 1:]
        yield text[:at] + text[at + 1:at + 2] + text[at:at + 1] + text[at + 2:]
    yield from (text + text, text + " " + text, "(" + text + ")", text.upper(), text.replace(" ", "  "), " " + text)


class Written(Case):
    def both(self, pairs, write, read):
        for thing, text in pairs:
            self.tells(text, write, thing)
            self.tells(thing, read, text)

    def test_by_hand(self):
        self.both(PLACE_TEXTS, place_text, read_place)
        self.both(DEED_TEXTS, deed_text, read_deed)
        self.both(QUESTION_TEXTS, question_text, read_question)
        self.both(ROW_TEXTS, row_text, read_row)
        self.both(NAME_TEXTS, name_text, read_name)

    def test_every_kind(self):
        for place in PLACES:
            self.assertEqual(repr(read_place(self.told(place_text, place))), repr(place))
        chance = Chance(261)
        weaver = woven(chance, 14)
        for _ in range(300):
            deed = any_deed(chance, weaver.web)
            self.assertEqual(repr(read_deed(self.told(deed_text, deed))), repr(deed))
        for _ in range(300):
            question = made_question(chance, 1 + chance.below(8))
            if plain_asks.question(question):
                self.assertEqual(repr(read_question(self.told(question_text, question))), repr(question))
        for name, _, _ in weaver.web:
            self.assertEqual(read_name(self.told(name_text, name)), name)
        for _ in range(200):
            row = tuple(sorted((qname, chance.one([0, -1, 10 ** 30, "key", "word", -(10 ** 18), 7]))
                               for qname in chance.some(QNAMES)))
            self.assertEqual(read_row(self.told(row_text, row)), row)

    def test_refused(self):
        self.refuses_each(place_text, (("table", "a"),), (NoPlace, WRONG_PLACES))
        self.refuses_each(deed_text, (("end", "a"),), (NoDeed, WRONG_DEEDS))
        self.refuses_each(name_text, (("a", 0, "main", 0),), (NoName, NO_NAMES))
        self.refuses_each(question_text, (A,), (NoQuestion, WRONG_QUESTIONS))
        self.refuses_each(row_text, ((),), (NoRow, WRONG_ROWS))

    def test_great_numbers(self):
        """However great: longer than Python itself writes."""
        for many in (17, 18, 19, 35, 36, 37, 40, 4299, 4301, 9000):
            for sign, low in ((1, 0), (-1, 0), (1, 7), (-1, 7)):
                text = row_text((("n", sign * (10 ** many + low)),))
                self.assertEqual(text, "n=" + "-" * (sign < 0) + "1" + "0" * (many - 1) + str(low))

    def test_qnames_that_look_like_questions(self):
        for qnames in [("roll", "t"), ("a", "roll"), ("but",), ("count", "is"), ("is", "join", "keep", "roll")]:
            question = ("count", ("keep", A, qnames), (), "roll")
            self.assertEqual(read_question(question_text(question)), question)


class Read(Case):
    def just(self, read, write, plainly, text):
        """Read is just what is so written, of such a thing."""
        try:
            thing = read(text)
        except NoText:
            thing = None
        self.assertEqual(repr(thing), repr(plainly(text)), text)
        if thing is not None:
            self.assertEqual(write(thing), text)
        return thing is not None

    def check(self, pairs, read, write, plainly):
        found = 0
        for _, text in pairs:
            self.assertTrue(self.just(read, write, plainly, text))
            for other in out_and_more(text):
                found += self.just(read, write, plainly, other)
        self.assertGreater(found, 5)

    def test_one_sign_otherwise(self):
        self.check(PLACE_TEXTS, read_place, place_text, plain_words.place)
        self.check(DEED_TEXTS, read_deed, deed_text, plain_words.deed)
        self.check(QUESTION_TEXTS, read_question, question_text, plain_words.question)
        self.check(ROW_TEXTS[:5], read_row, row_text, plain_words.row)
        self.check(NAME_TEXTS, read_name, name_text, plain_words.deed_name)

    def test_two_signs_otherwise(self):
        chance = Chance(262)
        for pairs, read, write, plainly in [
                (PLACE_TEXTS, read_place, place_text, plain_words.place),
                (DEED_TEXTS, read_deed, deed_text, plain_words.deed),
                (QUESTION_TEXTS, read_question, question_text, plain_words.question),
                (ROW_TEXTS[:5], read_row, row_text, plain_words.row),
                (NAME_TEXTS, read_name, name_text, plain_words.deed_name)]:
            for _ in range(3000):
                text = chance.one(pairs)[1]
                for _ in range(2 + chance.below(2)):
                    at = chance.below(len(text) + 1)
                    text = text[:at] + chance.one(["", *FEW_SIGNS]) + text[at + chance.below(2):]
                self.just(read, write, plainly, text)

    def test_each_sign_of_all(self):
        for sign in SIGNS:
            for text, read, write, plainly in [
                    ("row books 5", read_place, place_text, plain_words.place),
                    ("else a 0.main.3 5", read_deed, deed_text, plain_words.deed),
                    ("put a 5 0.main.3=x", read_deed, deed_text, plain_words.deed),
                    ("(keep (roll a) x)", read_question, question_text, plain_words.question),
                    ("x=5,y=y", read_row, row_text, plain_words.row),
                    ("a/1.mine.0", read_name, name_text, plain_words.deed_name)]:
                for at in range(len(text) + 1):
                    self.just(read, write, plainly, text[:at] + sign + text[at:])
                    self.just(read, write, plainly, text[:at] + sign + text[at + 1:])

    def test_what_is_not_so_written(self):
        for read, texts in [
                (read_place, [
                    "", " ", "table", "table ", "table  a", " table a", "table a ", "table a b", "table key", "table A",
                    "Table a", "row a -1", "row a 05", "row a 1000000001", "row a +5", "row a 5.", "row a -0", "row a",
                    "row a x", "slot a", "slot a key", "cell a 5", "cell a 5 0.main", "cell a 5 0.main.3.1",
                    "cell a 5 8.main.3", "cell a 5 0.key.3", "cell a 5 0.main.1000001", "cell a 5 00.main.3",
                    "cell a 5 0.main.03", "cell a 5 0..3", "cell a 5 .main.3", "cell a 5 0.main.", "cell a 5 -0.main.3",
                    "column a 0/main.3", "end a", "undo a/0.main.0", "put a 5 -", "name a 0.main.3 x", "row a 1_0",
                    "table a\n", "table\na", "table\ta", "row a \u0665", "row a 5 ", "(table a)", "()", "-"]),
                (read_deed, [
                    "", "table", "table a b", "column a x word", "column a x word - -", "column a x text -",
                    "column a key word -", "column a x word --", "column a x word -0", "column a x word 01",
                    "column a x word None", "column a x word X", "else a 0.main.3", "else a 0.main.3 --5", "put a 5",
                    "put a 5 ", "put a 5 - -", "put a 5 - 0.main.3=1", "put a 5 0.main.3", "put a 5 0.main.3=",
                    "put a 5 0.main.3=-", "put a 5 0.main.3=1=1", "put a 5 0.main.3=1  0.main.4=1",
                    "put a 5 0.main.4=1 0.main.3=1", "put a 5 0.main.3=1 0.main.3=1", "put a 5 =1", "put a 5 0.main=1",
                    "put a 5 " + " ".join(f"0.main.{at}=1" for at in range(7)), "put a 5 0.main.3=1 ", "put a -5 -",
                    "undo", "undo a", "undo a/0.main", "undo a 0 main 0", "undo a/0.main.0 x", "undo a/0.main.00",
                    "undo a/8.main.0", "undo /0.main.0", "undo a//0.main.0", "undo a/0/main.0", "undo  a/0.main.0",
                    "end", "end a b", "row a 5", "slot a b", "drop a", "blank a 5", "leave a", "call a 0.main.3",
                    "kind a 0.main.3 -", "call a 0.main.3 -", "column a - word -", "put", "put a", "Put a 5 -"]),
                (read_name, [
                    "", "a", "a/", "/", "a/0.main", "a/0.main.0.0", "a/8.main.0", "a/0.key.0", "key/0.main.0",
                    "a/0.main.1000001", "a/0.main.-1", "a/-0.main.0", "a/0.main.00", "a/00.main.0", "a/0.main.0 ",
                    " a/0.main.0", "a/ 0.main.0", "a.0.main.0", "a/0/main/0", "undo a/0.main.0", "a/0.main.x",
                    "a/x.main.0", "a/0..0", "0.main.0", "A/0.main.0", "a/0.main.0/", "a/0.main.0\n"]),
                (read_question, [
                    "", "()", "(", ")", "(roll a", "roll a)", "roll a", "((roll a))", "(roll a))", "((roll a)",
                    "( roll a)", "(roll a )", "(roll  a)", " (roll a)", "(roll a) ", "(roll a)(roll a)", "(roll)",
                    "(roll a b)", "(roll (roll a))", "(roll key)", "(Roll a)", "(roll 5)", "(keep (roll a))",
                    "(keep (roll a) )", "(keep (roll a) ())", "(keep (roll a) x y)", "(keep (roll a) x,)",
                    "(keep (roll a) ,x)", "(keep (roll a) y,x)", "(keep (roll a) x,x)", "(keep (roll a) -,x)",
                    "(keep (roll a) x, y)", "(keep (roll a) a,b,c,d,e,f,g)", "(keep a x)", "(keep(roll a) x)",
                    "(keep (roll a)x)", "(where (roll a) x is)", "(where (roll a) x is -)", "(where (roll a) x = 5)",
                    "(where (roll a) x is 05)", "(where (roll a) x is -0)", "(where (roll a) x is 1000000001)",
                    "(where (roll a) x is (roll a))", "(where (roll a) - is 5)", "(same (roll a) x)",
                    "(same (roll a) x y z)", "(call (roll a) x x)", "(join (roll a))", "(join (roll a) x)",
                    "(join (roll a)(roll a))", "(join (roll a) (roll a) (roll a))", "(join x (roll a))",
                    "(count (roll a) x x)", "(count (roll a) x)", "(count (roll a) - -)", "(sum (roll a) x x)",
                    "(sum (roll a) x y x)", "(sum (roll a) - x)", "(roll\na)", "(roll a)\n", "(roll\ta)", "(- a)",
                    "(answer a)", "((roll) a)", "((roll a) x)", "(() ())", ")(", "(where (roll a) x is None)"]),
                (read_row, [
                    "", " ", "( )", "(())", "()()", ",", "=", "x", "x=", "=5", "x=5,", ",x=5", "x=5,,y=5", "x=5, y=5",
                    "x =5", "x= 5", "x=5 ", "y=5,x=5", "x=5,x=5", "x=05", "x=-0", "x=--5", "x=-", "x=+5", "x=5=5",
                    "x==5",
                    "X=5", "x=Y", "x=()", "(x=5)", "x=5,()", "x=None", "x=True", "x=abcdefghi", "abcdefghi=5", "x=1.5",
                    "x=5\n", "5=5", "x-5", "x=1_000", "key=5;x=5", "-"])]:
            for text in texts:
                self.refused(NoText, read, text)

    def test_anything(self):
        for read in (read_place, read_deed, read_name, read_question, read_row):
            for thing in ANYTHING:
                self.refused(NoText, read, thing)

    def test_brackets_within_one_another(self):
        eight, nine = within(8), within(9)
        text = question_text(eight)
        self.assertEqual(read_question(text), eight)
        self.assertEqual(text.count("("), 8)
        self.refused(NoText, read_question, "(keep " + text + " key)")
        self.refused(NoText, read_question, "(join " + text + " (roll a))")
        self.refused(NoQuestion, question_text, nine)
        for many in (9, 100, 1999, 4000):
            for deep in ("(" * many, "(" * (many // 2) + ")" * (many // 2), "(keep " * (many // 6), "(" * many + "a)",
                         ")" * many):
                self.refused(NoText, read_question, deep)
        for many in (9, 50, 300, 440):
            self.refused(NoText, read_question, "(keep " * (many - 1) + "(roll a)" + " x)" * (many - 1))
        for many in (1, 30, 39, 40):
            self.assertEqual(read_question(question_text(in_all(many))), in_all(many))
        half = question_text(in_all(20))
        self.refused(NoText, read_question, "(either " + half + " " + half + ")")
        # As many brackets beside one another as there may be questions.
        beside = "(join (join (join (roll a) (roll b)) (join (roll c) (roll d))) (roll e))"
        self.assertEqual(question_text(read_question(beside)), beside)

    def test_length(self):
        for many, sound in ((3998, True), (3999, False)):
            text = "n=" + "9" * many
            if sound:
                self.assertEqual(row_text(self.told(read_row, text)), text)
            else:
                self.refused(NoText, read_row, text)
        pairs = sorted({chr(97 + one) + chr(97 + two) for one in range(26) for two in range(26)})
        row = tuple((name, 5 if at else 55) for at, name in enumerate(pairs[:800]))
        text = row_text(row)
        self.assertGreater(len(text), 3000)
        self.assertEqual(read_row(text[:len(text)]) if len(text) <= 4000 else row, row)
        for read in (read_place, read_deed, read_name, read_question, read_row):
            for sign in ("a", "(", " ", "9", "\n", "x=5,", "a/"):
                for many in (4000, 4001, 10 ** 5):
                    self.refused(NoText, read, (sign * many)[:many])
        # Just 4000 signs, and one more.
        four = ",".join(f"{name}=12345" for name in pairs[:444])
        four += ",zz=" + "9" * (4000 - len(four) - 4)
        self.assertEqual(len(four), 4000)
        self.assertEqual(row_text(read_row(four)), four)
        self.refused(NoText, read_row, four + "9")

    def test_what_one_reads_another_does_not(self):
        self.refused(NoText, read_place, "drop books 0")
        self.refused(NoText, read_deed, "cell books 5 0.main.3")
        self.refused(NoText, read_deed, "name books 0.main.3")
        self.tells(("table", "a"), read_place, "table a")
        self.tells(("table", "a"), read_deed, "table a")
        self.refused(NoText, read_deed, "kind a 0.main.3")
        self.refused(NoText, read_place, "kind a 0.main.3 any")


if __name__ == "__main__":
    unittest.main()
