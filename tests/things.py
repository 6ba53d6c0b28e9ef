"""What the tests share: anything to hand in, rows bent out of shape, and ways to ask twice."""

import unittest

GREAT = 10 ** 40 - 1
IDENT = (0, "main", 3)
OTHER = (7, "abcdefgh", 10 ** 6)


def deep(kind):
    """Ten of a kind within one another."""
    thing = 0
    for _ in range(10):
        thing = {"row": (thing,), "list": [thing], "dict": {"a": thing}}[kind]
    return thing


NUMBERS = [0, 1, -1, 2, 7, 8, 10 ** 6, 10 ** 6 + 1, 10 ** 9, 10 ** 9 + 1, -(10 ** 9), -(10 ** 9) - 1,
           GREAT, -GREAT]
TEXTS = ["", "a", "z", "books", "abcdefgh", "abcdefghi", "key", "number", "word", "any", "table", "row", "cell",
         "writes", "strike", "A", "aB", "a1", "1", "a b", " a", "a ", "a\n", "\n", "_", "a-b", "`", "{", "~", " "]
ROWS = [(), (0,), ("a",), (None,), (True,), ("a", "b"), ("b", "a"), ("a", "a"), ("a", 0), (0, "a", 0), IDENT, OTHER,
        ("table", "a"), (("table", "a"), True), ((("table", "a"), True),), (("table", "a"),), ("a", 0, "main", 0),
        (("a", 0, "main", 0),), ((("a", 0, "main", 0), (), ("writes", ((("table", "a"), True),))),),
        ("writes", ((("table", "a"), True),)), ((),), ((), ()), ([],), ({},), (["a"],), ({"a": 0}, [0], (None,))]
LISTS = [[], [0], ["a"], [None], ["table", "a"], [("table", "a"), True], [(("table", "a"), True)], [[]], [()], [{}]]
DICTS = [{}, {"a": 0}, {0: "a"}, {("table", "a"): True}, {"a": {"b": [(), {}]}}]
ANYTHING = NUMBERS + [True, False, None] + TEXTS + ROWS + LISTS + DICTS + [deep("row"), deep("list"), deep("dict")]

# Put in the place of each part of a row, to bend it.
PARTS = [True, False, 0, 1, -1, None, "", "a", "key", "zzz", (), ("a",), [], ["a"], {}, GREAT]


def bent(row):
    """The row with parts more, fewer, twice, exchanged, of other kinds, at every depth; some are sound still."""
    yield list(row)
    yield dict(enumerate(row))
    yield from ((), row + row, row[::-1], row[1:], row[:-1], (row,))
    for more in (None, True, 0, "a", (), []):
        yield row + (more,)
        yield (more,) + row
    for at, part in enumerate(row):
        yield row[:at] + (part,) + row[at:]
        yield row[:at] + row[at + 1:]
        yield row[:at] + (part, part) + row[at + 2:]
        yield row[:at] + row[at + 1:at + 2] + (part,) + row[at + 2:]
        for other in PARTS:
            yield row[:at] + (other,) + row[at + 1:]
        if isinstance(part, tuple):
            for other in bent(part):
                yield row[:at] + (other,) + row[at + 1:]


class Chance:
    """Numbers that look thrown, the same at each run and under each Python."""

    def __init__(self, seed):
        self.now = seed

    def below(self, many):
        self.now = (self.now * 6364136223846793005 + 1442695040888963407) % 2 ** 64
        return (self.now >> 33) % many

    def one(self, things):
        return things[self.below(len(things))]

    def some(self, things, share=2):
        """Each of the things or not, one of share of them."""
        return [thing for thing in things if self.below(share) == 0]

    def mixed(self, things):
        rest, found = list(things), []
        while rest:
            found.append(rest.pop(self.below(len(rest))))
        return found


class Case(unittest.TestCase):
    """Asks each question twice, and looks that nothing handed in is changed."""

    def told(self, function, *args, **more):
        handed = repr((args, more))
        first = function(*args, **more)
        self.assertEqual(repr((args, more)), handed, "what was handed in is changed")
        again = function(*args, **more)
        self.assertEqual(repr(again), repr(first), "asked again, another thing is told")
        self.assertEqual(repr((args, more)), handed, "what was handed in is changed")
        self.assert_rows(first)
        return first

    def tells(self, wanted, function, *args, **more):
        """Alike by what they look like: 1 is not True."""
        self.assertEqual(repr(self.told(function, *args, **more)), repr(wanted))

    def whether(self, wanted, function, *args):
        self.assertIs(self.told(function, *args), wanted, (function.__name__, args))

    def refused(self, error, function, *args, **more):
        handed = repr((args, more))
        for _ in range(2):
            with self.assertRaises(error, msg=(function.__name__, handed[:400])) as caught:
                function(*args, **more)
            self.assertIs(type(caught.exception), error)
            self.assertEqual(repr((args, more)), handed, "what was handed in is changed")
        return caught.exception

    def refuses_each(self, function, sound, *wrong, **more):
        """Each argument wrong alone, and with all those behind it wrong, too: refused as the first of these is.

        Of each of the first arguments wrong has its error, and things that are none.
        """
        worst = [things[0] for _, things in wrong] + [None] * (len(sound) - len(wrong))
        for at, (error, things) in enumerate(wrong):
            for thing in things:
                self.refused(error, function, *sound[:at], thing, *sound[at + 1:], **more)
                self.refused(error, function, *sound[:at], thing, *worst[at + 1:], **more)

    def lacks(self, error, name, function, *args):
        """Refused by an error that keeps just the name."""
        kept = self.refused(error, function, *args).name
        self.assertEqual(repr(kept), repr(name))

    def assert_rows(self, thing):
        """All rows that are told are tuples."""
        self.assertIn(type(thing), (int, bool, str, tuple, type(None)))
        if isinstance(thing, tuple):
            for part in thing:
                self.assert_rows(part)
