"""Stage 1, promises 3 and 4: places, what may stand there, writes."""

import unittest

from forkrolls.cells.places import is_place, is_writes, may_stand, table_of
from forkrolls.errors import NoPlace
from tests import plain
from tests.things import ANYTHING, GREAT, IDENT, OTHER, Case, bent

PLACES = [
    ("table", "books"), ("column", "books", IDENT), ("name", "books", IDENT), ("slot", "books", "title"),
    ("kind", "books", IDENT), ("else", "books", IDENT), ("row", "books", 5), ("cell", "books", 5, IDENT)]
STANDING = [True, True, "title", IDENT, "number", -5, True, "word"]
EDGES = [
    ("table", "a"), ("table", "abcdefgh"), ("column", "a", OTHER), ("slot", "a", "abcdefgh"), ("row", "a", 0),
    ("row", "a", 10 ** 9), ("cell", "a", 0, OTHER), ("cell", "a", 10 ** 9, (7, "a", 0)), ("table", "table")]
NO_PLACES = [
    ("table",), ("table", "key"), ("table", "abcdefghi"), ("table", "A"), ("table", "books", 0), ("table", 0),
    ("books", "table"), ("tables", "books"), ("", "books"), ("Table", "books"), (True, "books"), (0, "books"),
    (None, "books"), (["table"], "books"), ({}, "books"), ((), "books"), ["table", "books"], {"table": "books"},
    "table", ("column", "books"), ("column", "books", "title"), ("column", "books", list(IDENT)),
    ("column", "books", IDENT, 0), ("column", "books", IDENT, IDENT), ("column", "books", (8, "a", 0)),
    ("column", "books", (0, "a", 10 ** 6 + 1)), ("column", "books", (True, "a", 0)), ("name", "books", "title"),
    ("slot", "books", IDENT), ("slot", "books", "key"), ("slot", "books", 0), ("kind", "books", "number"),
    ("else", "books", 0), ("row", "books", -1), ("row", "books", 10 ** 9 + 1), ("row", "books", True),
    ("row", "books", False), ("row", "books", None), ("row", "books", "5"), ("row", "books", IDENT),
    ("row", "books", GREAT), ("row", "books", 5, IDENT), ("cell", "books", 5), ("cell", "books", IDENT),
    ("cell", "books", IDENT, 5), ("cell", "books", True, IDENT), ("cell", "books", -1, IDENT),
    ("cell", "books", 10 ** 9 + 1, IDENT), ("cell", "books", 5, IDENT, 0), ("cell", "books", 5, "title"),
    ("cell", "books", 5, (0, "key", 0)), ("cell", "key", 5, IDENT), ()]


class Places(Case):
    def test_places(self):
        for place in PLACES + EDGES:
            self.whether(True, is_place, place)

    def test_no_places(self):
        for thing in NO_PLACES:
            self.whether(False, is_place, thing)

    def test_places_of_anything(self):
        for thing in ANYTHING:
            self.whether(plain.place(thing), is_place, thing)

    def test_places_bent(self):
        for place in PLACES + EDGES:
            for thing in bent(place):
                self.whether(plain.place(thing), is_place, thing)

    def test_table_of(self):
        for place in PLACES:
            self.tells("books", table_of, place)
        for place in EDGES:
            self.tells(place[1], table_of, place)

    def test_table_of_no_place(self):
        for thing in NO_PLACES:
            self.refused(NoPlace, table_of, thing)
        for thing in ANYTHING:
            if not plain.place(thing):
                self.refused(NoPlace, table_of, thing)


class MayStand(Case):
    def test_what_stands(self):
        for place, thing in zip(PLACES, STANDING):
            self.whether(True, may_stand, place, thing)

    def test_true_alone(self):
        for word in (("table", "a"), ("column", "a", IDENT), ("row", "a", 0)):
            self.whether(True, may_stand, word, True)
            for thing in (1, 0, False, None, "true", (True,), [True]):
                self.whether(False, may_stand, word, thing)

    def test_edges(self):
        name, slot, kind = ("name", "a", IDENT), ("slot", "a", "b"), ("kind", "a", IDENT)
        for thing, fits in [("a", True), ("abcdefgh", True), ("abcdefghi", False), ("key", False), ("A", False),
                            ("", False), (0, False), (None, False)]:
            self.whether(fits, may_stand, name, thing)
        for thing, fits in [(IDENT, True), (OTHER, True), ((7, "b", 10 ** 6 + 1), False), ((8, "b", 0), False),
                            ((True, "b", 0), False), (list(IDENT), False), ("b", False), (None, False)]:
            self.whether(fits, may_stand, slot, thing)
        for thing, fits in [("number", True), ("word", True), ("any", True), ("text", False), ("Any", False),
                            ("", False), (0, False), (None, False), (("any",), False), (["any"], False)]:
            self.whether(fits, may_stand, kind, thing)

    def test_values(self):
        for place in (("else", "a", IDENT), ("cell", "a", 0, IDENT)):
            for thing, fits in [(10 ** 9, True), (10 ** 9 + 1, False), (-(10 ** 9), True), (-(10 ** 9) - 1, False),
                                (0, True), ("key", True), ("abcdefgh", True), ("abcdefghi", False), ("", False),
                                (True, False), (False, False), (None, False), ((), False), (IDENT, False)]:
                self.whether(fits, may_stand, place, thing)

    def test_anything_at_each_place(self):
        for place in PLACES:
            for thing in ANYTHING + STANDING:
                self.whether(plain.fits(place, thing), may_stand, place, thing)

    def test_no_place_whatever_the_other(self):
        for thing in NO_PLACES:
            self.refused(NoPlace, may_stand, thing, True)
        for thing in ANYTHING:
            self.refused(NoPlace, may_stand, "no place", thing)
            if not plain.place(thing):
                self.refused(NoPlace, may_stand, thing, None)
                self.refused(NoPlace, may_stand, thing, 1)


WRITES = [
    ((("table", "books"), True),), ((("table", "books"), None),), ((("cell", "a", 0, IDENT), "key"),),
    tuple(sorted(zip(PLACES, STANDING))), tuple((place, None) for place in sorted(PLACES)),
    ((("row", "a", 2), True), (("row", "a", 10), None)),
    ((("cell", "a", 0, IDENT), 0), (("cell", "a", 0, OTHER), -(10 ** 9)), (("cell", "a", 10 ** 9, IDENT), 10 ** 9))]
NO_WRITES = [
    (), ((("table", "a"), True), (("table", "b"), True)), ((("row", "a", 1), True), (("row", "b", 2), True)),
    ((("row", "a", 10), True), (("row", "a", 2), True)), ((("row", "a", 1), True), (("row", "a", 1), True)),
    ((("row", "a", 1), None), (("row", "a", 1), True)), ((("row", "a", 1), True), (("row", "a", "b"), True)),
    ((("row", "a", 1), True), (("row", "a", None), True)), ((("row", "a", 1), True), (("row", "a", [1]), True)),
    ((("row", "a", 1), True), None), (None, (("row", "a", 1), True)), (("table", "a"), True), ("table", "a"),
    ((("table", "a"), 1),), ((("table", "a"), False),), ((("table", "a"),),), ((("table", "a"), True, True),),
    [(("table", "a"), True)], ([("table", "a"), True],), ((["table", "a"], True),), ({("table", "a"): True},),
    {("table", "a"): True}, ((("cell", "a", 0, IDENT), 10 ** 9 + 1),), ((("kind", "a", IDENT), "text"),),
    ((("cell", "a", 0, IDENT), 1), (("cell", "a", (0,), IDENT), 1)), ((1, True), ("a", True)), (1, "a"), (None, 1, "a"),
    ((("column", "a", IDENT), True), (("column", "a", "b"), True)), (([], 1), ({}, 1)), ((None, None),), (((), None),)]


class Writes(Case):
    def test_writes(self):
        for thing in WRITES:
            self.whether(True, is_writes, thing)

    def test_no_writes(self):
        for thing in NO_WRITES:
            self.whether(False, is_writes, thing)

    def test_writes_of_anything(self):
        for thing in ANYTHING:
            self.whether(plain.writes(thing), is_writes, thing)
            self.whether(plain.writes((thing,)), is_writes, (thing,))
            for place in PLACES:
                self.whether(plain.writes(((place, thing),)), is_writes, ((place, thing),))
            for beside in ((thing, (("table", "a"), True)), ((("row", "a", 0), True), thing)):
                self.whether(plain.writes(beside), is_writes, beside)
            for odd in ((("row", "a", thing), True), (("cell", "a", thing, IDENT), 0), ((thing, "a"), True)):
                beside = ((("cell", "a", 0, IDENT), 0), (("row", "a", 0), True), odd)
                self.whether(plain.writes(beside), is_writes, beside)

    def test_writes_bent(self):
        for sound in WRITES:
            for thing in bent(sound):
                self.whether(plain.writes(thing), is_writes, thing)


if __name__ == "__main__":
    unittest.main()
