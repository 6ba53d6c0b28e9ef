"""Stage 6, promise 9: the desk, each of its rows, and what it refuses."""

import unittest

from forkrolls.errors import (
    Clashes, Lacking, NoBranch, NoHand, NoNumber, NoRight, NoTable, NoText, Settled, Taken, TooWide, Undone)
from forkrolls.store.store import Store
from forkrolls.words.desk import Desk
from forkrolls.words.texts import name_text, place_text, question_text, row_text
from tests import plain_words
from tests.days import HANDS, Day
from tests.plain_store import MAIN
from tests.shops import QUESTIONS, X
from tests.test_changes import all_places
from tests.things import ANYTHING, Case, Chance

BEGUN = ("do 0 main table a", "do 0 main column a x any -", "do 0 main column a y any none",
         "do 0 main put a 1 0.main.1=1", "do 0 main put a 2 0.main.1=two 0.main.2=-5", "grant 0 a 1 2",
         "share 0 0.main 1", "fork 1 mine 0.main")
ANSWERS = ("a/0.main.0", "a/0.main.1", "a/0.main.2", "a/0.main.3", "a/0.main.4", "ok", "ok", "ok")
SOUND = BEGUN + (
    "mark 1 kept 1.mine", "merge 1 mine 0.main", "strict 1 mine 0.main", "share 1 1.mine 2", "unshare 1 1.mine 2",
    "drop 1 1.kept", "prune 0", "pick 1 mine 0.main a/0.main.3", "names 0", "tables 0", "read 0 0.main row a 1",
    "ask 0 0.main (roll a)")


def begun():
    desk = Desk()
    desk.many(BEGUN)
    return desk


class Says(Case):
    def say(self, desk, row, wanted):
        """What is told changes nothing, so it is told again."""
        self.tells(wanted, desk.say, row)

    def test_at_first(self):
        desk = Desk()
        for hand in range(8):
            self.say(desk, f"names {hand}", "-" if hand else "0.main")
            self.say(desk, f"tables {hand}", "-")
        self.say(desk, "read 0 0.main table a", "-")
        self.say(desk, "ask 0 0.main (roll a)", "- / -")
        self.say(desk, "ask 0 0.main (count (roll a) - n)", "- / -")
        self.tells((), desk.log)
        self.assertIs(desk.busy(), False)

    def test_rows_that_do(self):
        desk = Desk()
        self.assertEqual(tuple(desk.say(row) for row in BEGUN), ANSWERS)
        for row, wanted in [
                ("do 1 mine put a 1 0.main.1=5", "a/1.mine.0"), ("mark 1 kept 1.mine", "ok"),
                ("do 1 mine undo a/1.mine.0", "a/1.mine.1"), ("do 1 mine undo a/1.mine.1", "a/1.mine.2"),
                ("do 0 main put a 1 -", "a/0.main.5"), ("pick 0 main 1.mine a/1.mine.0", "a/0.main.6"),
                ("merge 0 main 1.mine", "ok"), ("strict 0 main 1.mine", "ok"), ("share 1 1.mine 2", "ok"),
                ("names 2", "1.mine"), ("unshare 1 1.mine 2", "ok"), ("names 2", "-"), ("drop 1 1.kept", "ok"),
                ("prune 0", "ok"), ("grant 0 a 1 3", "ok"), ("do 1 mine end a", "a/1.mine.3"),
                ("do 2 x table a", NoBranch), ("do 0 main table books", "books/0.main.0"), ("tables 0", "a books"),
                ("tables 1", "a"), ("names 0", "0.main 1.mine"), ("names 1", "0.main 1.mine")]:
            if isinstance(wanted, str):
                self.assertEqual(desk.say(row), wanted)
            else:
                self.refused(wanted, desk.say, row)

    def test_read(self):
        desk = begun()
        desk.say("do 1 mine drop a 1")
        desk.say("do 1 mine put a 2 0.main.1=7")
        desk.say("do 0 main put a 2 0.main.1=-7")
        desk.say("merge 1 mine 0.main")
        for row, wanted in [
                ("read 0 0.main table a", "+"), ("read 0 0.main row a 1", "+"), ("read 1 1.mine row a 1", "."),
                ("read 1 1.mine cell a 2 0.main.1", "-7 7"), ("read 0 0.main cell a 2 0.main.2", "-5"),
                ("read 0 0.main slot a x", "0.main.1"), ("read 0 0.main name a 0.main.1", "x"),
                ("read 0 0.main kind a 0.main.1", "any"), ("read 0 0.main else a 0.main.1", "-"),
                ("read 0 0.main else a 0.main.2", "none"), ("read 0 0.main column a 0.main.1", "+"),
                ("read 0 0.main row a 9", "-"), ("read 0 0.main table b", "-"), ("read 1 1.mine table a", "+"),
                ("read 0 1.mine cell a 1 0.main.1", "."), ("read 0 0.main cell a 1 0.main.1", "1")]:
            self.say(desk, row, wanted)
        desk.say("do 0 main drop a 1")
        desk.say("fork 0 side 0.main")
        desk.say("do 0 side put a 1 0.main.1=x")
        desk.say("do 0 main put a 1 0.main.1=9")
        desk.say("do 0 main blank a 1 0.main.1")
        desk.say("merge 0 main 0.side")
        self.say(desk, "read 0 0.main cell a 1 0.main.1", "x .")

    def test_ask(self):
        desk = begun()
        for question, wanted in [
                ("(roll a)", "key=1,x=1,y=none key=2,x=two,y=-5 / -"), ("(keep (roll a) -)", "() / -"),
                ("(keep (roll a) x)", "x=two x=1 / -"), ("(where (roll a) x is 9)", "- / -"),
                ("(count (roll a) - n)", "n=2 / -"), ("(roll b)", "- / -")]:
            self.say(desk, "ask 0 0.main " + question, wanted)
            self.say(desk, "ask 1 1.mine " + question, wanted)
        desk.say("do 1 mine put a 1 0.main.1=5")
        desk.say("do 0 main put a 1 0.main.1=6")
        desk.say("merge 0 main 1.mine")
        self.say(desk, "ask 0 0.main (roll a)", "key=2,x=two,y=-5 / key=1,x=5,y=none key=1,x=6,y=none")
        self.say(desk, "ask 0 0.main (where (roll a) key is 1)", "- / key=1,x=5,y=none key=1,x=6,y=none")
        self.say(desk, "ask 0 0.main (keep (where (roll a) x is 5) -)", "- / ()")
        self.say(desk, "ask 0 0.main (keep (roll a) -)", "() / -")

    def test_as_the_store(self):
        """A day at the desk: each row written, each answer as the plain store's."""
        for seed in range(4):
            desk, day = Desk(), Day(self, Chance(270 + seed))
            pairs = []
            row = day.row

            def spoken(*parts):
                told = row(*parts)
                said = answer_of(desk, row_said(parts))
                self.assertEqual(said, written(parts[0], told), parts)
                pairs.append(parts)
                return told

            day.row = spoken
            day.begin()
            for step in range(40):
                day.step()
                for hand in HANDS:
                    names = day.plain.names(hand)
                    self.say(desk, f"names {hand}", " ".join(f"{at[0]}.{at[1]}" for at in names) or "-")
                    self.say(desk, f"tables {hand}", " ".join(day.plain.tables(hand)) or "-")
                    if step % 10 == 9:
                        for at in [at[:2] for at in names]:
                            self.look(desk, day, hand, at)
            self.assertGreater(len(pairs), 50)

    def look(self, desk, day, hand, at):
        start = f"{hand} {at[0]}.{at[1]} "
        for place in day.chance.some(all_places(day.plain.full), 6):
            values = [value_said(value) for value in day.plain.reading(hand, at, place)]
            self.say(desk, "read " + start + place_text(place), " ".join(values) or "-")
        for question in day.chance.some(QUESTIONS, 6):
            told = day.store.ask(hand, at, question)
            self.say(desk, "ask " + start + question_text(question),
                     " / ".join(" ".join(map(row_text, rows)) or "-" for rows in told))

    def test_two_desks(self):
        one, other = begun(), begun()
        one.say("do 0 main drop a 1")
        self.say(other, "read 0 0.main row a 1", "+")
        self.say(one, "read 0 0.main row a 1", ".")


OTHERS = ["", "0", "1", "5", "8", "-1", "a", "mine", "key", "Z", "0.main", "1.mine", "5.x", "0.main.1", "a/0.main.3",
          "do", "names", "prune", "-", "(roll a)", "table"]


def begun_store():
    """A store that the same was done to as to a desk that has begun."""
    store = Store()
    for row in BEGUN:
        store.many((plain_words.desk(row),))
    return store


def spaced(texts):
    return " ".join(texts) or "-"


def answer_by(store, row):
    """What a desk is to tell of a row that says this, or nothing."""
    if row is None:
        return ("NoText",)
    word, *parts = row
    try:
        if word == "names":
            return spaced([said(at[:2]) for at in store.names(*parts)])
        if word == "tables":
            return spaced(store.tables(*parts))
        if word == "read":
            return spaced([value_said(value) for value in store.reading(*parts)])
        if word == "ask":
            return " / ".join(spaced([row_text(told) for told in rows]) for rows in store.ask(*parts))
        return written(word, store.many((row,))[0])
    except (ValueError, LookupError) as error:
        return (type(error).__name__, *([error.name] if hasattr(error, "name") else []))


def value_said(value):
    if value is True or value is None:
        return "+" if value else "."
    return ".".join(str(part) for part in value) if isinstance(value, tuple) else str(value)


def said(part):
    """A part of a store's row, as words."""
    if isinstance(part, tuple) and len(part) == 2 and isinstance(part[0], int):
        return f"{part[0]}.{part[1]}"
    if isinstance(part, tuple):
        return deed_said(part)
    return str(part)


def deed_said(deed):
    """A deed asked for, or a deed's name."""
    if len(deed) == 4 and isinstance(deed[1], int):
        return f"{deed[0]}/{deed[1]}.{deed[2]}.{deed[3]}"
    if deed[0] == "undo":
        return "undo " + deed_said(deed[1:])
    words = [str(part) for part in deed if not isinstance(part, tuple) and part is not None]
    if deed[0] == "put":
        return " ".join(words + [f"{value_said(ident)}={value}" for ident, value in deed[3]] + ["-"] * (deed[3] == ()))
    return " ".join("-" if part is None else value_said(part) for part in deed)


def row_said(parts):
    return " ".join(said(part) for part in parts)


def written(word, told):
    """What a desk tells where a store tells this."""
    if isinstance(told, tuple) and isinstance(told[0], str) and told[0][0].isupper():
        return told
    return name_text(told) if word in ("do", "pick") else "ok"


def answer_of(desk, row):
    try:
        return desk.say(row)
    except (ValueError, LookupError) as error:
        return (type(error).__name__, *([error.name] if hasattr(error, "name") else []))


class Refusals(Case):
    def no_text(self, desk, rows):
        for row in rows:
            self.refused(NoText, desk.say, row)

    def test_anything_else(self):
        desk = begun()
        self.no_text(desk, ANYTHING)
        self.no_text(desk, [
            "", " ", "fork", "fork 1", "fork 1 x", "fork 1 x 0.main 1", "fork 1 x main", "fork 1 x 0",
            "fork 1 x 0.main.1",
            "fork x 1 0.main", "fork 8 x 0.main", "fork -1 x 0.main", "fork 01 x 0.main", "fork 1 key 0.main",
            "fork 1 X 0.main", "fork 1 abcdefghi 0.main", "fork 1 x 8.main", "fork 1 x 0.key", "fork 1 x 00.main",
            "fork 1 x -", "fork 1 - 0.main", "Fork 1 x 0.main", "fork 1 x 0 main", "fork  1 x 0.main",
            " fork 1 x 0.main", "fork 1 x 0.main ", "fork 1 x  0.main", "fork 1 x 0.main\n", "fork\n1 x 0.main",
            "fork 1 (x) 0.main", "fork 1 x 0..main", "fork 1 x .main", "fork 1 x 0.", "fork True x 0.main",
            "mark 1 x", "merge 1 mine", "strict 1 mine", "strict 1 mine 0.main x", "merge 1 mine main",
            "grant 0 a 1", "grant 0 a 1 2 3", "grant 0 a 8 1", "grant 8 a 1 1", "grant 0 key 1 1", "grant 0 a 1 x",
            "grant 0 a 1 -", "grant 0 a 1 01", "grant 0 a 1 1.0", "grant 0 a 1 +1", "grant 0 a 01 1", "grant 0 a x 1",
            "grant 0 a 1 -0", "grant 0 5 1 1", "share 1 1.mine", "share 1 1.mine 8", "share 1 mine 2",
            "share 1 1.mine x",
            "unshare 1 2 1.mine", "unshare 1 1.mine 2 3", "drop 1", "drop 1 mine", "drop 1 1.mine 1", "drop 1.mine",
            "prune", "prune 8", "prune 0 0", "prune -", "prune x", "do 0 main", "do 0 main ", "do 0 table a",
            "do 0 main table", "do 0 main  table a", "do 0 main table a ", "do 0 main cell a 1 0.main.1",
            "do 0 main put a 1", "do 0 main undo a 0 main 0", "do 0 main column a x any", "do 0 key table a",
            "do 8 main table a", "do 0 main (roll a)", "pick 0 main 1.mine", "pick 0 main 1.mine a",
            "pick 0 main 1.mine -",
            "pick 0 main 1.mine a/1.mine.0 x", "pick 0 main 1.mine a 1 mine 0", "pick 0 main 1.mine undo a/1.mine.0",
            "pick 0 main 1.mine a/1.mine.00", "names", "names 8", "names 0 0", "names x", "names 0.main", "tables",
            "tables 8", "tables 0 a", "tables a", "read 0 0.main", "read 0 0.main ", "read 0 0.main a",
            "read 0 0.main end a",
            "read 0 0.main table a b", "read 0 0.main table  a", "read 8 0.main table a", "read 0 main table a",
            "read 0 0.main row a 01", "read 0 0.main (roll a)", "ask 0 0.main", "ask 0 0.main roll a",
            "ask 0 0.main ()",
            "ask 0 0.main (roll  a)", "ask 0 0.main (roll a) ", "ask 0 0.main  (roll a)",
            "ask 0 0.main (roll a) (roll b)",
            "ask 8 0.main (roll a)", "ask 0 main (roll a)", "ask 0 0.main (roll a) 200", "say names 0", "log", "busy",
            "many", "level 0 a", "view 0 0.main", "why 0 0.main table a", "behind 0 0.main a 1", "len", "act 0", "-"])

    def alike(self, text):
        """The desk answers, or refuses, as a store does that the same was done to."""
        desk, store = begun(), begun_store()
        self.assertEqual(answer_of(desk, text), answer_by(store, plain_words.desk(text)), text)
        self.assertEqual(desk.say("names 0"), spaced([said(at[:2]) for at in store.names(0)]))

    def test_each_row_with_a_word_out_one_more_another(self):
        for row in SOUND:
            self.alike(row)
            words = row.split(" ")
            for at in range(len(words)):
                ahead, word, rest = words[:at], words[at], words[at + 1:]
                others = [[], [word, word]] + [[other] for other in OTHERS] + [[other, word] for other in OTHERS]
                for other in others + [[word + "\n"], [word[:-1]], [word + "a"], [word + "0"], ["0" + word]]:
                    self.alike(" ".join(ahead + other + rest))
            for text in [row + " ", " " + row, row + "\n", row + " Z", row.upper(), row.replace(" ", "  "),
                         row.replace(" ", "\n"), row[1:], row + ")", "(" + row + ")"]:
                self.assertIsNone(plain_words.desk(text))
                self.alike(text)

    def test_great_rows(self):
        desk = begun()
        for row in ("grant 0 a 1 " + "9" * 4000, "a" * 10 ** 5, "ask 0 0.main " + "(" * 4000, "names 0" + " " * 4000,
                    "ask 0 0.main " + "(keep " * 9 + "(roll a)" + " key)" * 9,
                    "do 0 main put a 1 " + "0.main.1=1 " * 900):
            self.refused(NoText, desk.say, row)
        self.refused(NoNumber, desk.say, "grant 0 a 1 " + "9" * 3980)

    def test_as_the_store_refuses(self):
        desk = begun()
        for row, error, *kept in [
                ("fork 1 mine 0.main", Taken), ("fork 1 x 5.x", NoBranch, (5, "x")), ("fork 3 x 0.main", NoBranch,
                    MAIN),
                ("do 1 main table b", NoBranch, (1, "main")), ("do 1 mine end a", NoRight),
                ("do 1 mine undo a/1.mine.0", Lacking, ("a", 1, "mine", 0)), ("grant 0 a 0 1", NoHand),
                ("grant 0 a 1 4", NoNumber), ("grant 0 a 1 -1", NoNumber), ("grant 1 a 1 1", NoRight),
                ("grant 0 b 1 1", NoTable), ("grant 0 a 0 9", NoHand), ("drop 0 0.main", NoRight), ("prune 1", NoRight),
                ("drop 1 0.main", NoBranch, MAIN), ("share 1 0.main 2", NoBranch, MAIN),
                ("read 3 0.main table a", NoBranch, MAIN), ("ask 3 0.main (roll a)", NoBranch, MAIN),
                ("pick 1 mine 0.main a/0.main.9", Lacking, ("a", 0, "main", 9)),
                ("merge 1 nowhere 0.main", NoBranch, (1, "nowhere")),
                ("merge 1 mine 1.nowhere", NoBranch, (1, "nowhere"))]:
            caught = self.refused(error, desk.say, row)
            self.assertEqual([caught.name] if kept else [], kept)
        desk.say("do 1 mine put a 1 0.main.1=5")
        desk.say("do 0 main put a 1 0.main.1=6")
        caught = self.refused(Clashes, desk.say, "strict 0 main 1.mine")
        self.assertEqual(caught.name, ("cell", "a", 1, X))
        desk.say("do 1 mine undo a/1.mine.0")
        self.refused(Undone, desk.say, "do 1 mine undo a/1.mine.0")
        desk.say("prune 0")
        self.refused(Settled, desk.say, "do 1 mine undo a/0.main.4")

    def test_too_wide(self):
        desk = begun()
        for hand in range(2, 8):
            desk.many((f"share 0 0.main {hand}", f"grant 0 a {hand} 2", f"fork {hand} mine 0.main"))
            desk.many(tuple(f"do {hand} mine put a {key} 0.main.1={hand}" for key in (1, 2, 3)))
        for hand in range(2, 8):
            desk.say(f"merge 0 main {hand}.mine")
        self.refused(TooWide, desk.say, "ask 0 0.main (roll a)")


class Many(Case):
    def test_many(self):
        desk = Desk()
        self.assertEqual(desk.many(BEGUN), ANSWERS)
        self.tells(tuple(pair for row in BEGUN for pair in (("in", row), ("out", row))), desk.log)
        self.assertEqual(desk.many(()), ())
        self.assertEqual(desk.many(("names 0", "tables 1")), ("0.main 1.mine", "a"))
        self.assertEqual(len(desk.log()), 2 * len(BEGUN) + 4)
        desk.say("names 0")
        self.assertEqual(len(desk.log()), 2 * len(BEGUN) + 4)
        self.assertIs(desk.busy(), False)

    def test_up_to_the_first_refused(self):
        for wrong, error in [("fork 1 mine 0.main", Taken), ("names", NoText), (None, NoText), (["names 0"], NoText),
                             ("drop 0 0.main", NoRight), ("read 5 0.main table a", NoBranch), (7, NoText),
                             (("names 0",), NoText), ({"a": []}, NoText)]:
            desk = begun()
            with self.assertRaises(error) as caught:
                desk.many(("do 0 main drop a 1", wrong, "do 0 main drop a 2"))
            self.assertIs(type(caught.exception), error)
            self.assertEqual(desk.log()[2 * len(BEGUN):], (
                ("in", "do 0 main drop a 1"), ("out", "do 0 main drop a 1"), ("in", wrong), ("out", wrong)))
            self.assertIs(desk.busy(), False)
            self.assertEqual(desk.say("read 0 0.main row a 1"), ".")
            self.assertEqual(desk.say("read 0 0.main row a 2"), "+")

    def test_no_tuple_of_rows(self):
        desk = begun()
        ahead = desk.log()
        for thing in [list(BEGUN), "names 0", dict.fromkeys(BEGUN)] + [
                thing for thing in ANYTHING if not isinstance(thing, tuple)]:
            self.refused(NoText, desk.many, thing)
        self.assertEqual(desk.log(), ahead)

    def test_busy_within(self):
        heard = []

        class Heard(Desk):
            def say(self, row):
                heard.append(self.busy())
                return Desk.say(self, row)

        desk = Heard()
        with self.assertRaises(NoText):
            desk.many(("names 0", "names"))
        self.assertEqual(heard, [True, True])
        self.assertIs(desk.busy(), False)


if __name__ == "__main__":
    unittest.main()
