"""Days of a store: rows thrown, done on the store and on a plain one, side by side."""

from forkrolls.store.store import Store
from tests.plain_asks import Refused
from tests.plain_store import MAIN, PlainStore
from tests.shops import X, Y, put
from tests.weaver import any_deed

HANDS = (0, 1, 2, 3)
NAMES = ("x", "y", "z")
TABLES = ("a", "b")
WORDS = ["do"] * 24 + ["merge"] * 9 + ["strict"] * 3 + ["pick"] * 4 + ["fork"] * 3 + ["mark"] * 2 + ["grant"] * 3 + [
    "share"] * 2 + ["unshare", "drop"] + ["prune"] * 2


class Day:
    """A store and a plain one that the same is done to."""

    def __init__(self, case, chance, words=WORDS):
        self.case, self.chance, self.words = case, chance, words
        self.store, self.plain = Store(), PlainStore()
        self.refused = {}
        self.done = {}

    def begin(self):
        """Table a with two columns and rows; hands 1 to 3 may do there and see main, and have branches."""
        for deed in [("table", "a"), ("column", "a", "x", "any", None), ("column", "a", "y", "any", None),
                     put(1, x=1, y="one"), put(2, x=2)]:
            self.row("do", 0, "main", deed)
        for hand in HANDS[1:]:
            self.row("grant", 0, "a", hand, 2)
            self.row("share", 0, MAIN, hand)
            self.row("fork", hand, "x", MAIN)
        return self

    def row(self, word, *parts):
        """The row done on both; what is told, or the error's name and what it keeps."""
        store = self.store
        try:
            if word == "strict":
                told = store.merge(*parts, strict=True)
            else:
                told = getattr(store, word)(*parts)
        except (ValueError, LookupError) as error:
            told = (type(error).__name__, *([error.name] if hasattr(error, "name") else []))
        try:
            wanted = getattr(self.plain, word)(*parts)
            self.done[word] = self.done.get(word, 0) + 1
        except Refused as error:
            wanted = error.args
            self.refused[(word, wanted[0])] = self.refused.get((word, wanted[0]), 0) + 1
        self.case.assertEqual(repr(told), repr(wanted), (word, *parts))
        self.case.assertEqual(repr(store.view(0, MAIN)), repr(self.plain.view(0, MAIN)))
        return told

    def step(self):
        chance, plain = self.chance, self.plain
        word = chance.one(self.words)
        hand = chance.one(HANDS[1:] if chance.below(4) else HANDS)
        owned = [at[1] for at in plain.held if at[0] == hand and (plain.held[at][0] or chance.below(8) == 0)]
        name = chance.one(owned) if owned and chance.below(12) else chance.one(NAMES)
        ats = [at for at in sorted(plain.held) if hand in (0, at[0]) or (at, hand) in plain.shared]
        at = chance.one(ats) if ats and chance.below(12) else chance.one([*sorted(plain.held), (5, "x")])
        other = chance.one(HANDS)
        mine = [each for each in ats if hand in (0, each[0])]
        if word == "do":
            if chance.below(6) == 0 and plain.reading(0, MAIN, ("table", "a")) != (True,):
                return self.row(word, 0, "main", ("table", "a"))
            return self.row(word, hand, name, self.deed(hand, name))
        if word in ("merge", "strict"):
            return self.row(word, hand, name, at)
        if word in ("fork", "mark"):
            return self.row(word, hand, chance.one(NAMES), at)
        if word == "pick":
            named = [each for each, _, _ in plain.full]
            if chance.below(6):
                named = plain.held.get(at, plain.held[MAIN])[2] or named
            return self.row(word, hand, name, at, chance.one(named))
        if word == "grant":
            return self.row(word, chance.one([0, hand]), chance.one(TABLES), other, chance.one((0, 1, 2, 2, 2, 3)))
        if word in ("share", "unshare"):
            return self.row(word, hand, chance.one(mine) if mine and chance.below(8) else at, other)
        if word == "drop":
            return self.row(word, hand, at)
        return self.row(word, chance.one([0, 0, 0, hand]))

    def gather(self):
        """Main has all that was done, and each branch that of main, as far as their owners see it."""
        for at in sorted(self.plain.held):
            self.row("merge", 0, "main", at)
        for at in sorted(self.plain.held):
            self.row("merge", *at, MAIN)

    def deed(self, hand, name):
        chance, plain = self.chance, self.plain
        done = [each for each, _, _ in plain.full]
        if chance.below(8):
            done = plain.held.get((hand, name), plain.held[MAIN])[2] or done
        late = [each for each in done if each[1] != 0] or done
        return chance.one([
            put(1 + chance.below(3), x=chance.one((1, 2, 5))), put(1 + chance.below(3), x=chance.one((1, 2)), y="z"),
            ("drop", "a", 1 + chance.below(3)), ("blank", "a", 1, X), ("undo", *chance.one(late)),
            ("undo", *chance.one(late)), ("undo", *chance.one(done)), ("call", "a", X, chance.one(("x", "w"))),
            chance.one([("leave", "a", Y), ("end", "a"), ("table", chance.one(TABLES))]), put(1, x=7), put(4, y=0),
            any_deed(chance, plain.web), any_deed(chance, plain.web)])


def day_of(case, chance, steps, **more):
    day = Day(case, chance, **more).begin()
    for _ in range(steps):
        day.step()
    return day
