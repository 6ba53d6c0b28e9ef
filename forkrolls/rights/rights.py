"""Rights: what level each hand has at the tables that were used."""

from forkrolls.cells.names import is_whole, need_hand, need_name
from forkrolls.deeds.forms import need_deed
from forkrolls.errors import NoHand, NoNumber, NoRight, NoTable
from forkrolls.merges.changes import roots_within
from forkrolls.webs.lots import need_lot, seen_at
from forkrolls.webs.webs import need_web

SEES = 1
DOES = 2
GRANTS = 3


class Rights:
    """Levels of hands at tables, for all branches alike."""

    def __init__(self):
        # By each table that was used the levels of hands from 1 on; hand 0 needs none.
        self._levels = {}

    def level(self, table, hand):
        """The level of a hand at a table."""
        need_name(table)
        need_hand(hand)
        return self.level_of(table, hand)

    def level_of(self, table, hand):
        """The level, of what surely are a table's name and a hand."""
        if hand == 0:
            return GRANTS
        return self._levels.get(table, {}).get(hand, 0)

    def used(self):
        """Rising, the tables that were used."""
        return tuple(sorted(self._levels))

    def use(self, hand, table):
        """Have the hand use the table; whether it was used first."""
        need_hand(hand)
        need_name(table)
        if table in self._levels:
            return False
        self._levels[table] = {}
        self._set(table, hand, GRANTS)
        return True

    def _set(self, table, hand, level):
        levels = self._levels[table]
        levels.pop(hand, None)
        if hand != 0 and level > 0:
            levels[hand] = level

    def grant(self, hand, table, other, level):
        """Have the hand give the other this level at the table."""
        need_hand(hand)
        need_name(table)
        need_hand(other)
        if other == 0:
            raise NoHand("hand 0 is granted nothing")
        if not is_whole(level, 0, GRANTS):
            raise NoNumber("a level is a whole number from 0 to 3")
        if self.level_of(table, hand) < GRANTS:
            raise NoRight("only who has level 3 at a table grants there")
        if table not in self._levels:
            raise NoTable("the table was never used")
        self._set(table, other, level)

    def granted(self, table):
        """Rising (hand, level), of all hands but 0 that have a level from 1 on at the table."""
        need_name(table)
        return tuple(sorted(self._levels.get(table, {}).items()))

    def seen(self, hand):
        """Rising, the used tables that the hand sees."""
        need_hand(hand)
        return tuple([table for table in sorted(self._levels) if self.level_of(table, hand) >= SEES])

    def need(self, web, lot, deed):
        """The level that the deed asked for needs in the lot."""
        need_web(web)
        need_lot(web, lot)
        need_deed(deed)
        return self.need_of(web, lot, deed)

    def need_of(self, web, lot, deed):
        """The level needed, of what surely are a web, its lot and a deed asked for."""
        word, table = deed[:2]
        if word == "end":
            return GRANTS
        if word == "table":
            if table in self._levels:
                return GRANTS
            return 0
        if word == "undo" and deed[1:] in lot:
            whats = {name: what for name, _, what in web}
            return need_of_writes(whats[roots_within(web)[deed[1:]]][1])
        return DOES

    def view(self, hand, web, lot):
        """The lot's deeds of the tables that the hand sees, as a web."""
        need_hand(hand)
        need_web(web)
        need_lot(web, lot)
        return self.view_of(hand, web, lot)

    def view_of(self, hand, web, lot):
        """The view, of what surely are a hand, a web and its lot."""
        members = {name: True for name in lot}
        return seen_at([deed for deed in web if deed[0] in members], self.seen(hand))

    def __eq__(self, other):
        return isinstance(other, Rights) and self._levels == other._levels

    def __len__(self):
        return len(self._levels)


def need_of_writes(writes):
    """The level that is needed to do writes, or to undo them: more where they take out the table."""
    for place, value in writes:
        if place[0] == "table" and value is None:
            return GRANTS
    return DOES
