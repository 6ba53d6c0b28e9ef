"""Stores: branches and marks of hands, on which deeds are done, picked, merged, shared and pruned."""

from forkrolls.asks.questions import need_question
from forkrolls.asks.sure import sure_and_perhaps
from forkrolls.asks.whence import behind_within
from forkrolls.cells.names import is_hand, is_name, need_hand, need_key, need_name
from forkrolls.cells.places import need_place
from forkrolls.deeds.forms import need_deed
from forkrolls.deeds.making import made_as, need_few, need_number
from forkrolls.errors import Clashes, Lacking, NoBranch, NoDeed, NoRight, NoRow, Settled, Taken
from forkrolls.readings.lasts import clashing, last_at, values_of
from forkrolls.readings.papers import why_within
from forkrolls.remnants.remnants import cut_within, remnant_within
from forkrolls.rights.rights import Rights, need_of_writes
from forkrolls.store.diary import Diary
from forkrolls.webs.lots import put_together, whole_names
from forkrolls.webs.orders import need_most
from forkrolls.webs.webs import is_deed_name
from forkrolls.worlds.ways import MOST_WAYS

MAIN = (0, "main")
# How many parts the row of each word has, the word too.
PARTS = {"fork": 4, "mark": 4, "do": 4, "merge": 4, "strict": 4, "pick": 5, "grant": 5, "share": 4, "unshare": 4,
         "drop": 3, "prune": 2}


class Store:
    """Branches and marks, each with a lot of one web."""

    def __init__(self):
        self._web = ()
        self._branches = {MAIN: ()}
        self._marks = {}
        # (owner, name, other hand) of what is shared; what all see anyway isn't in here.
        self._shared = {}
        self._given = {MAIN: True}
        # The highest number ever given, by table, hand and branch.
        self._numbers = {}
        self._settled = {}
        self._rights = Rights()
        self._diary = Diary()

    def fork(self, hand, name, at):
        """A new branch of the hand, with what at has; (hand, name)."""
        own, lot = self._named(hand, name, at)
        self._branches[own] = lot
        return own

    def mark(self, hand, name, at):
        """A new mark of the hand, with what at has; (hand, name)."""
        own, lot = self._named(hand, name, at)
        self._marks[own] = lot
        return own

    def _named(self, hand, name, at):
        """(hand, name), given now, and the lot of at."""
        need_hand(hand)
        need_name(name)
        lot = self._lot_at(hand, at)
        own = (hand, name)
        if own in self._given:
            raise Taken("the hand has given this name")
        self._given[own] = True
        return own, lot

    def do(self, hand, name, deed):
        """The name of a deed asked for, made on a branch of the hand."""
        into = self._into(hand, name)
        need_deed(deed)
        lot = self._branches[into]
        self._need_level(hand, deed[1], self._rights.need_of(self._web, lot, deed))
        return self._add(into, made_as(self._web, lot, self._next_name(into, deed[1]), deed, self._settled))

    def pick(self, hand, name, at, deed):
        """The name of a deed that does anew, on a branch of the hand, what a deed seen at at writes."""
        into = self._into(hand, name)
        what = self._picked(hand, self._lot_at(hand, at), deed)
        self._need_level(hand, deed[0], need_of_writes(what[1]))
        lot = self._branches[into]
        need_few(lot, deed[0])
        return self._add(into, (self._next_name(into, deed[0]), lot, what))

    def _picked(self, hand, lot, name):
        """What the deed of this name, one of the hand's view, is: writes."""
        if not is_deed_name(name) or name[0] not in self._rights.seen(hand) or name not in lot:
            raise Lacking(name)
        if name in self._settled:
            raise Settled(name)
        whats = {each: what for each, _, what in self._web}
        if whats[name][0] == "strike":
            raise NoDeed("a strike can't be picked")
        return whats[name]

    def _next_name(self, into, table):
        start = (table, *into)
        number = self._numbers.get(start, -1) + 1
        need_number(number, ())
        return (*start, number)

    def _add(self, into, deed):
        """Have the branch do the deed; its name."""
        name = deed[0]
        self._web = tuple(sorted([*self._web, deed]))
        self._branches[into] = put_together([self._branches[into], (name,)])
        self._numbers[name[:3]] = name[3]
        self._rights.use(into[0], name[0])
        return name

    def _need_level(self, hand, table, need):
        if self._rights.level_of(table, hand) < need:
            raise NoRight("the hand's level at the table is too low")

    def merge(self, hand, name, at, *, strict=False):
        """Have a branch of the hand have what at has, too."""
        into = self._into(hand, name)
        other = self._lot_at(hand, at)
        own = self._branches[into]
        both = put_together((own, other))
        if strict:
            self._need_no_new_clash(hand, both, (own, other))
        self._branches[into] = both

    def _need_no_new_clash(self, hand, both, lots):
        tables = self._rights.seen(hand)
        old = {place: True for lot in lots for place, _ in clashing(self._web, lot)}
        for place, _ in clashing(self._web, both):
            if place[1] in tables and place not in old:
                raise Clashes(place)

    def grant(self, hand, table, other, level):
        """Have the hand give the other this level at the table."""
        self._rights.grant(hand, table, other, level)

    def share(self, hand, at, other):
        """Have the other hand see at, which is the hand's own."""
        self._need_own(hand, at)
        need_hand(other)
        if other != 0 and other != at[0]:
            share = (*at, other)
            self._shared[share] = True

    def unshare(self, hand, at, other):
        """Have the other hand see at no more, unless it is its own."""
        self._need_own(hand, at)
        need_hand(other)
        self._shared.pop((*at, other), None)

    def drop(self, hand, at):
        """Have at, which is the hand's own, be gone; its name stays given."""
        self._need_own(hand, at)
        if at == MAIN:
            raise NoRight("main can't be dropped")
        self._branches.pop(at, None)
        self._marks.pop(at, None)
        self._shared = {share: True for share in self._shared if share[:2] != at}

    def prune(self, hand):
        """Have the web be what is left of it for all branches and marks."""
        need_hand(hand)
        if hand != 0:
            raise NoRight("hand 0 alone prunes")
        lots = list(self._branches.values()) + list(self._marks.values())
        self._web, settled = remnant_within(self._web, lots)
        self._settled = {name: True for name in settled}
        self._branches = {own: cut_within(self._web, lot) for own, lot in self._branches.items()}
        self._marks = {own: cut_within(self._web, lot) for own, lot in self._marks.items()}

    def _into(self, hand, name):
        """(hand, name) of a branch of the hand's own."""
        need_hand(hand)
        need_name(name)
        own = (hand, name)
        if own not in self._branches:
            raise NoBranch(own)
        return own

    def _lot_at(self, hand, at):
        """The lot of a branch or a mark that the hand sees."""
        if not is_at(at) or not self._sees(hand, at):
            raise NoBranch(at)
        if at in self._marks:
            return self._marks[at]
        return self._branches[at]

    def _sees(self, hand, at):
        if at not in self._branches and at not in self._marks:
            return False
        return hand == 0 or hand == at[0] or (*at, hand) in self._shared

    def _need_own(self, hand, at):
        """Refuse what is no branch and no mark of the hand's own; to hand 0 all are."""
        need_hand(hand)
        self._lot_at(hand, at)
        if hand != 0 and hand != at[0]:
            raise NoBranch(at)

    def names(self, hand):
        """Rising (hand, name, whether it is a branch) of what the hand sees."""
        need_hand(hand)
        found = [(*own, True) for own in self._branches if self._sees(hand, own)]
        return tuple(sorted(found + [(*own, False) for own in self._marks if self._sees(hand, own)]))

    def tables(self, hand):
        """Rising, the tables that the hand sees."""
        return self._rights.seen(hand)

    def level(self, hand, table):
        """The hand's level at the table."""
        need_hand(hand)
        need_name(table)
        return self._rights.level_of(table, hand)

    def view(self, hand, at):
        """The deeds at at that the hand sees, as a web."""
        need_hand(hand)
        return self._rights.view_of(hand, self._web, self._lot_at(hand, at))

    def reading(self, hand, at, place):
        """What the hand reads of the place."""
        need_hand(hand)
        lot = self._lot_at(hand, at)
        need_place(place)
        if place[1] not in self._rights.seen(hand):
            return ()
        return values_of(last_at(self._web, lot, place))

    def why(self, hand, at, place):
        """What shows the hand that the place is agreed upon, or that it clashes."""
        view = self.view(hand, at)
        need_place(place)
        return why_within(view, whole_names(view), place)

    def ask(self, hand, at, question, *, most=MOST_WAYS):
        """(sure, perhaps) of the question."""
        view = self.view(hand, at)
        need_question(question)
        need_most(most)
        return sure_and_perhaps(view, whole_names(view), question, most)

    def behind(self, hand, at, table, key):
        """Who stands behind the row, as far as the hand sees."""
        view = self.view(hand, at)
        need_name(table)
        need_key(key)
        return behind_within(view, whole_names(view), table, key)

    def many(self, rows):
        """What each of the rows tells, done up to the first that is refused."""
        if not isinstance(rows, tuple):
            raise NoRow("many rows are a row of rows")
        return self._diary.through(rows, self.act)

    def act(self, row):
        """What the method tells for which the row stands."""
        if not is_store_row(row):
            raise NoRow("a row is a word and what the word asks for")
        word, *parts = row
        actions = {
            "fork": self.fork, "mark": self.mark, "do": self.do, "merge": self.merge, "strict": self._merge_strictly,
            "pick": self.pick, "grant": self.grant, "share": self.share, "unshare": self.unshare, "drop": self.drop,
            "prune": self.prune}
        action = actions[word]
        return action(*parts)

    def _merge_strictly(self, hand, name, at):
        self.merge(hand, name, at, strict=True)

    def log(self):
        """("in", row) and ("out", row) of each of many rows that was begun."""
        return self._diary.log()

    def busy(self):
        """Whether many rows are being done."""
        return self._diary.busy()

    def _told(self):
        """All that two stores are compared by."""
        return (self._branches, self._marks, self._shared, self._web, self._rights, self._settled, self._given,
                self._numbers)

    def __eq__(self, other):
        return isinstance(other, Store) and self._told() == other._told()

    def __len__(self):
        return len(self._web)

    def __str__(self):
        return f"store of {len(self._branches)} branches, {len(self._marks)} marks"


def is_at(thing):
    """Whether thing is what a branch or a mark may be called."""
    return isinstance(thing, tuple) and len(thing) == 2 and is_hand(thing[0]) and is_name(thing[1])


def is_store_row(thing):
    """Whether thing is a row of a known word and as many parts as it has."""
    if not isinstance(thing, tuple) or len(thing) == 0 or not isinstance(thing[0], str):
        return False
    return PARTS.get(thing[0], 0) == len(thing)
