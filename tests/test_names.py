"""Stage 1, promise 2: is_name, is_value, is_id tell of anything."""

import unittest

from forkrolls.cells.names import is_id, is_name, is_value
from tests import plain
from tests.things import ANYTHING, GREAT, Case, bent

LETTERS = "abcdefghijklmnopqrstuvwxyz"
SIGNS = [chr(code) for code in range(32, 127)] + ["\n", "\r", "\t"]


class Names(Case):
    def test_names(self):
        for thing in [*LETTERS, "books", "abcdefgh", "stuvwxyz", "keys", "ke", "ey", "table", "number", "akey"]:
            self.whether(True, is_name, thing)

    def test_no_names(self):
        for thing in ["", "abcdefghi", "key", "Books", "bOOKS", "BOOKS", "Key", "a1", "a b", " a", "a ", "a\n", "\na",
                      "key ", "a_b", "a.b", "-", "1", 0, 1, True, False, None, ("a",), ["a"], {"a": True}, ()]:
            self.whether(False, is_name, thing)

    def test_each_sign(self):
        for sign in SIGNS:
            self.whether(sign in LETTERS, is_name, sign)
            self.whether(sign in LETTERS, is_name, "a" + sign)
            self.whether(sign in LETTERS, is_name, sign + "a")

    def test_each_length(self):
        for length in range(12):
            self.whether(1 <= length <= 8, is_name, "x" * length)

    def test_names_of_anything(self):
        for thing in ANYTHING:
            self.whether(plain.name(thing), is_name, thing)


class Values(Case):
    def test_values(self):
        for thing in [0, 1, -1, 7, 10 ** 9, -(10 ** 9), "a", "key", "abcdefgh", "number"]:
            self.whether(True, is_value, thing)

    def test_no_values(self):
        for thing in [10 ** 9 + 1, -(10 ** 9) - 1, GREAT, -GREAT, True, False, None, "", "abcdefghi", "A", "a1", "5",
                      "a\n", (), (1,), [1], {}, {1: 1}, ("a",)]:
            self.whether(False, is_value, thing)

    def test_each_length(self):
        for length in range(12):
            self.whether(1 <= length <= 8, is_value, "k" * length)

    def test_values_of_anything(self):
        for thing in ANYTHING:
            self.whether(plain.value(thing), is_value, thing)


class Ids(Case):
    def test_ids(self):
        for thing in [(0, "main", 0), (7, "abcdefgh", 10 ** 6), (3, "a", 1), (1, "number", 999999)]:
            self.whether(True, is_id, thing)

    def test_no_ids(self):
        for thing in [(8, "a", 0), (-1, "a", 0), (True, "a", 0), (False, "a", 0), (0, "a", True), (0, "a", False),
                      (0, "a", -1), (0, "a", 10 ** 6 + 1), (0, "a", GREAT), (GREAT, "a", 0), (0, "key", 0),
                      (0, "", 0), (0, "A", 0), (0, "abcdefghi", 0), (0, 0, 0), (0, None, 0), ("a", 0, 0),
                      (0, 0, "a"), (None, "a", 0), (0, "a", None), (0, "a"), (0, "a", 0, 0), (), [0, "a", 0],
                      {0: "a"}, (0, ["a"], 0), ([0], "a", 0), (0, "a", [0]), ((0, "a", 0),), "a", 0, None, True]:
            self.whether(False, is_id, thing)

    def test_ids_of_anything(self):
        for thing in ANYTHING:
            self.whether(plain.ident(thing), is_id, thing)

    def test_ids_bent(self):
        for sound in [(0, "main", 0), (1, "a", 1), (7, "abcdefgh", 10 ** 6)]:
            for thing in bent(sound):
                self.whether(plain.ident(thing), is_id, thing)


if __name__ == "__main__":
    unittest.main()
