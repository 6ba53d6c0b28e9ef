"""Stage 4, promise 1: deeds as they are asked for."""

import unittest

from forkrolls.deeds.forms import is_deed
from tests import plain_asks
from tests.things import ANYTHING, GREAT, IDENT, OTHER, Case, bent

IDENTS = [(0, "main", at) for at in range(7)]
CELLS = tuple((ident, value) for ident, value in zip(IDENTS, [0, "x", -(10 ** 9), 10 ** 9, "key", "abcdefgh", 1]))
DEEDS = [
    ("table", "a"), ("table", "abcdefgh"), ("column", "a", "x", "number", None), ("column", "a", "x", "number", "word"),
    ("column", "a", "x", "word", 5), ("column", "a", "x", "any", -(10 ** 9)), ("column", "a", "x", "any", "key"),
    ("call", "a", IDENT, "y"), ("call", "a", OTHER, "abcdefgh"), ("kind", "a", IDENT, "number"),
    ("kind", "a", IDENT, "word"), ("kind", "a", OTHER, "any"), ("else", "a", IDENT, None), ("else", "a", IDENT, 0),
    ("else", "a", IDENT, "word"), ("put", "a", 0, ()), ("put", "a", 10 ** 9, CELLS[:1]), ("put", "a", 5, CELLS[:6]),
    ("blank", "a", 0, IDENT), ("blank", "a", 10 ** 9, OTHER), ("drop", "a", 0), ("drop", "a", 10 ** 9),
    ("leave", "a", IDENT),
    ("end", "a"), ("undo", "a", 0, "main", 0), ("undo", "a", 7, "abcdefgh", 10 ** 6)]
NO_DEEDS = [
    ("table",), ("table", "key"), ("table", "a", None), ("Table", "a"), ("table", "abcdefghi"), ("table", ("a",)),
    ("tables", "a"),
    ("column", "a", "x", "number"), ("column", "a", "key", "number", None), ("column", "a", "x", "Number", None),
    ("column", "a", "x", None, None), ("column", "a", "x", "number", True), ("column", "a", "x", "number", 10 ** 9 + 1),
    ("column", "a", "x", "number", ""), ("column", "a", "x", "number", None, None), ("column", "key", "x", "any", None),
    ("column", "a", IDENT, "any", None), ("column", "a", "x", "number", ()), ("column", "a", "x"), ("column", "a"),
    ("call", "a", IDENT, "key"), ("call", "a", "x", "y"), ("call", "a", (8, "main", 0), "y"), ("call", "a", IDENT),
    ("call", "a", IDENT, "y", None), ("call", "a", list(IDENT), "y"), ("call", "a", (True, "main", 3), "y"),
    ("kind", "a", IDENT, None), ("kind", "a", IDENT, "name"), ("kind", "a", "x", "any"), ("kind", "a", IDENT),
    ("else", "a", IDENT), ("else", "a", IDENT, False), ("else", "a", IDENT, GREAT), ("else", "a", None, 1),
    ("else", "a", IDENT, ""),
    ("put", "a", 0), ("put", "a", -1, ()), ("put", "a", True, ()), ("put", "a", 10 ** 9 + 1, ()),
    ("put", "a", 0, CELLS),
    ("put", "a", 0, []), ("put", "a", 0, None), ("put", "a", 0, CELLS[::-1]), ("put", "a", 0, (CELLS[0], CELLS[0])),
    ("put", "a", 0, ((IDENT, 0), (IDENT, 1))), ("put", "a", 0, (list(CELLS[0]),)), ("put", "a", 0, ((IDENT, None),)),
    ("put", "a", 0, ((IDENT, True),)), ("put", "a", 0, ((IDENT,),)), ("put", "a", 0, (IDENT, 0)),
    ("put", "a", 0, ((IDENT, 0, 0),)),
    ("put", "a", 0, (("x", 0),)), ("put", "a", 0, (CELLS[1], CELLS[0])), ("put", "a", 0, {}),
    ("put", "a", 0, CELLS[:1], ()),
    ("put", "a", 0, dict(CELLS[:1])), ("blank", "a", 0), ("blank", "a", IDENT, 0), ("blank", "a", 0, None),
    ("blank", "a", 0, "x"),
    ("blank", "a", 0, IDENT, None), ("drop", "a"), ("drop", "a", "x"), ("drop", "a", -1), ("drop", "a", False),
    ("drop", "a", 0, 0),
    ("leave", "a"), ("leave", "a", "x"), ("leave", "a", IDENT, None), ("leave", IDENT), ("end",), ("end", "a", "b"),
    ("end", "key"),
    ("undo", "a"), ("undo", "a", 0, "main"), ("undo", "a", 8, "main", 0), ("undo", "a", 0, "key", 0),
    ("undo", "a", 0, "main", -1),
    ("undo", "a", 0, "main", 10 ** 6 + 1), ("undo", "a", 0, "main", True), ("undo", "a", True, "main", 0),
    ("undo", "key", 0, "main", 0), ("undo", ("a", 0, "main", 0)), ("undo", "a", 0, "main", 0, 0),
    ("undo", "a", 0, ["main"], 0),
    ("", "a"), (None, "a"), (["table"], "a"), ({}, "a", 0), ("a", "table"), ("row", "a", 0), ("roll", "a")]
WRONG_DEEDS = NO_DEEDS + [thing for thing in ANYTHING if not plain_asks.deed(thing)]


class Forms(Case):
    def test_deeds(self):
        for thing in DEEDS:
            self.whether(True, is_deed, thing)

    def test_no_deeds(self):
        for thing in WRONG_DEEDS:
            self.whether(False, is_deed, thing)

    def test_other_words(self):
        words = sorted({thing[0] for thing in DEEDS})
        self.assertEqual(len(words), 11)
        for thing in DEEDS:
            for other in words:
                self.whether(plain_asks.deed((other, *thing[1:])), is_deed, (other, *thing[1:]))

    def test_anything_and_bent(self):
        for thing in DEEDS:
            for each in bent(thing):
                self.whether(plain_asks.deed(each), is_deed, each)
            for at in range(len(thing)):
                for part in ANYTHING:
                    each = thing[:at] + (part,) + thing[at + 1:]
                    self.whether(plain_asks.deed(each), is_deed, each)

    def test_none_to_seven_cells(self):
        for many in range(8):
            self.whether(many <= 6, is_deed, ("put", "a", 5, CELLS[:many]))
        self.whether(False, is_deed, ("put", "a", 5, tuple(((0, "main", at), 0) for at in range(100000))))


if __name__ == "__main__":
    unittest.main()
