"""Stage 6, promises 4 to 6 and 10: whole days of a store, held against plain stores after each step."""

import unittest

from forkrolls.store.store import Store
from tests import plain
from tests.days import HANDS, Day
from tests.knots import whole
from tests.plain_store import MAIN, sure_and_perhaps
from tests.shops import QUESTIONS, few_orders
from tests.test_changes import all_places
from tests.things import Case, Chance


def was_refused(told):
    """Whether what a day tells is the name of an error: all else that is told begins with a small letter."""
    return isinstance(told, tuple) and isinstance(told[0], str) and told[0][0].isupper()


class Days(Case):
    def look(self, day, questions):
        """All that every hand is told at every branch and mark, as plain stores tell it."""
        store, plainly = day.store, day.plain
        self.assertEqual(len(store), len(plainly.web))
        branches = [at for at in plainly.held if plainly.held[at][0]]
        self.assertEqual(str(store), f"store of {len(branches)} branches, {len(plainly.held) - len(branches)} marks")
        places = all_places(plainly.full) + [("table", "nowhere")]
        asked = 0
        for hand in HANDS:
            self.tells(plainly.names(hand), store.names, hand)
            self.tells(plainly.tables(hand), store.tables, hand)
            for table in ("a", "b", "nowhere"):
                self.tells(plainly.rights.level(table, hand), store.level, hand, table)
            for at in [at[:2] for at in plainly.names(hand)]:
                view = plainly.view(hand, at)
                self.assertEqual(repr(store.view(hand, at)), repr(view))
                full = plainly.full_view(hand, at)
                for place in day.chance.some(places, 4):
                    self.tells(plainly.reading(hand, at, place), store.reading, hand, at, place)
                    self.assertTrue(plain.why(view, whole(view), place, store.why(hand, at, place)))
                if questions and few_orders(full, whole(full), 60):
                    states = plainly.ends(hand, at)
                    for question in questions:
                        asked += 1
                        self.tells(sure_and_perhaps(states, question), store.ask, hand, at, question)
        return asked

    def test_as_plainly(self):
        """Each step of a day, with the readings and views; answers of some of them."""
        chance = Chance(201)
        asked, refused, done = 0, {}, {}
        for number in range(40):
            day = Day(self, chance).begin()
            for step in range(35):
                day.step()
                if step % 7 == number % 7:
                    asked += self.look(day, chance.some(QUESTIONS, 9))
            refused.update(day.refused)
            done.update(day.done)
        self.assertGreater(asked, 300)
        self.assertEqual(sorted(done), ["do", "drop", "fork", "grant", "mark", "merge", "pick", "prune", "share",
                                        "strict", "unshare"])
        for pair in [("do", "NoBranch"), ("do", "NoRight"), ("do", "Lacking"), ("do", "Settled"), ("do", "Undone"),
                     ("do", "NoColumn"), ("do", "NoRow"), ("do", "Taken"), ("pick", "Lacking"),
                     ("pick", "Settled"), ("pick", "NoDeed"), ("pick", "NoBranch"),
                     ("fork", "Taken"), ("mark", "Taken"), ("fork", "NoBranch"), ("grant", "NoHand"),
                     ("grant", "NoRight"), ("grant", "NoTable"), ("drop", "NoBranch"), ("drop", "NoRight"),
                     ("strict", "Clashes"), ("share", "NoBranch"), ("prune", "NoRight"), ("merge", "NoBranch")]:
            self.assertIn(pair, refused)

    def test_long_days(self):
        """Many steps, with hand 0 pruning all the time; readings alone."""
        chance = Chance(202)
        for _ in range(3):
            day = Day(self, chance).begin()
            for _ in range(90):
                day.step()
            self.look(day, ())
            day.row("prune", 0)
            self.look(day, ())

    def test_pruned_again_and_again_and_never(self):
        """Two stores, the same done to both but for prunes: told the same but for what is settled."""
        words = ["do"] * 12 + ["merge"] * 4 + ["strict", "pick", "fork", "mark", "drop", "share"]
        chance = Chance(203)
        pruned_some = 0
        for _ in range(20):
            day = Day(self, chance, words).begin()
            for step in range(24):
                day.step()
                if step % 8 == 7:
                    day.gather()
                day.row("prune", 0)
                self.look(day, ())
            # The plain store tells all from its full web, as one that is never pruned does.
            pruned_some += len(day.plain.full) - len(day.plain.web)
            few = [at for at in day.plain.held if few_orders(day.plain.full, day.plain.held[at][1], 60)]
            for at in few[:2]:
                states = day.plain.ends(0, at)
                for question in QUESTIONS[::3]:
                    self.tells(sure_and_perhaps(states, question), day.store.ask, 0, at, question)
        self.assertGreater(pruned_some, 60)

    def test_one_pruned_and_one_not(self):
        """What isn't refused is done to another store, which is never pruned; the two are asked the same."""
        chance = Chance(204)
        fewer = 0
        for _ in range(6):
            day, other = Day(self, chance), Store()
            row = day.row

            def both(word, *parts):
                told = row(word, *parts)
                if word != "prune" and not was_refused(told):
                    again = other.many(((word, *parts),))[0]
                    self.assertEqual(repr(again), repr(told))
                return told

            day.row = both
            day.begin()
            for step in range(40):
                day.step()
                if step % 10 == 9:
                    day.gather()
                day.row("prune", 0)
                self.assertEqual(repr(day.store.names(0)), repr(other.names(0)))
                for hand in HANDS:
                    for at in [at[:2] for at in other.names(hand)]:
                        for question in chance.some(QUESTIONS, 12):
                            self.assertEqual(repr(day.store.ask(hand, at, question, most=10 ** 4)),
                                             repr(other.ask(hand, at, question, most=10 ** 4)))
                        for place in chance.some(all_places(day.plain.full), 6):
                            self.assertEqual(repr(day.store.reading(hand, at, place)),
                                             repr(other.reading(hand, at, place)))
            fewer += len(other) - len(day.store)
        self.assertGreater(fewer, 20)

    def test_the_same_done_to_two(self):
        for seed in range(3):
            days = [Day(self, Chance(210 + seed)).begin() for _ in range(2)]
            self.assertEqual(days[0].store, days[1].store)
            for _ in range(40):
                for day in days:
                    day.step()
                self.assertEqual(days[0].store, days[1].store)
                for hand in HANDS:
                    self.assertEqual(days[0].store.names(hand), days[1].store.names(hand))
            for at in days[0].plain.held:
                self.assertEqual(days[0].store.view(0, at), days[1].store.view(0, at))

    def test_what_is_refused_changes_nothing(self):
        """A store done just what wasn't refused is alike to one that was asked for all."""
        for seed in range(5):
            day = Day(self, Chance(220 + seed)).begin()
            other = Store()
            chance = Chance(230 + seed)
            rows = []
            row = day.row
            day.row = lambda *parts: rows.append((parts, row(*parts)))
            for _ in range(60):
                day.step()
            again = Day(self, chance).begin()
            for parts, told in rows:
                if not was_refused(told):
                    again.row(*parts)
            self.assertEqual(day.store, again.store)
            self.assertNotEqual(day.store, other)
            self.assertEqual(day.store.names(0)[0], (*MAIN, True))


if __name__ == "__main__":
    unittest.main()
