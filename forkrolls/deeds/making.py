"""Making: what a deed asked for is in a lot, with a name, as a web has it."""

from forkrolls.cells.names import MOST_NUMBER, is_whole, need_hand, need_name
from forkrolls.cells.places import need_place
from forkrolls.deeds.forms import need_deed
from forkrolls.errors import Lacking, NoColumn, NoNumber, NoRow, NoTable, Settled, Taken, TooWide, Undone
from forkrolls.readings.lasts import readings_of
from forkrolls.webs.lots import need_lot
from forkrolls.webs.standing import standing_names
from forkrolls.webs.webs import need_web

MOST_DEEDS = 60
# What an end takes out of a table; all else of its columns may stay, as nothing shows it.
ENDED = ("row", "column", "cell", "slot")


def is_there(web, lot, place):
    """Whether more than None is read at the place."""
    need_web(web)
    need_lot(web, lot)
    need_place(place)
    return _is_there(readings_of(web, lot), place)


def _is_there(read, place):
    return read.get(place, ()) not in ((), (None,))


def made(web, lot, hand, branch, deed, *, number=None):
    """The deed's name, what it knows and what it is."""
    need_web(web)
    need_lot(web, lot)
    need_hand(hand)
    need_name(branch)
    need_deed(deed)
    start = (deed[1], hand, branch)
    return made_as(web, lot, (*start, _number_of(web, start, number)), deed, {})


def made_as(web, lot, name, deed, settled):
    """The deed of this name, of what is surely all as it should be; no undo of what is settled, as keys."""
    what = _what_of(web, lot, name, deed, settled)
    need_few(lot, deed[1])
    return (name, lot, what)


def need_few(lot, table):
    """Refuse a deed more where the lot has as many of the table as it may."""
    if len([name for name in lot if name[0] == table]) >= MOST_DEEDS:
        raise TooWide("the lot has sixty deeds of the table")


def _number_of(web, start, number):
    """The number told, or the one above those of the web whose names start so."""
    given = [name[3] for name, _, _ in web if name[:3] == start]
    if number is None:
        number = max(given, default=-1) + 1
    need_number(number, given)
    return number


def need_number(number, given):
    """Refuse what can't be the number of a deed, beside those given."""
    if not is_whole(number, 0, MOST_NUMBER) or number in given:
        raise NoNumber("the number of a deed is from 0 to 10 ** 6, and none that is given")


def _what_of(web, lot, name, deed, settled):
    if deed[0] == "undo":
        return ("strike", _standing_one(web, lot, deed[1:], settled))
    read = readings_of(web, lot)
    _need_what_it_names(read, deed)
    _need_free(read, deed)
    return ("writes", tuple(sorted(_writes_of(read, name, deed))))


def _standing_one(web, lot, name, settled):
    """The name, of a deed that stands in the lot and isn't settled."""
    if name not in lot:
        raise Lacking(name)
    if name in settled:
        raise Settled(name)
    if name not in standing_names(web, lot):
        raise Undone(name)
    return name


def _need_what_it_names(read, deed):
    """Refuse a deed whose table, columns or row aren't there."""
    word, table = deed[:2]
    if word != "table" and not _is_there(read, ("table", table)):
        raise NoTable("the table isn't there")
    for ident in _columns_of(deed):
        if not _is_there(read, ("column", table, ident)):
            raise NoColumn("the column isn't there")
    if word in ("blank", "drop") and not _is_there(read, ("row", table, deed[2])):
        raise NoRow("the row isn't there")


def _columns_of(deed):
    """The ids of the columns that a deed needs."""
    word = deed[0]
    if word in ("call", "kind", "else", "leave"):
        return [deed[2]]
    if word == "blank":
        return [deed[3]]
    if word == "put":
        return [ident for ident, _ in deed[3]]
    return []


def _need_free(read, deed):
    """Refuse a deed that gives what is given."""
    word, table = deed[:2]
    if word == "table":
        taken = _is_there(read, ("table", table))
    elif word == "column":
        taken = _is_there(read, ("slot", table, deed[2]))
    elif word == "call":
        held = read.get(("slot", table, deed[3]), ())
        taken = any([ident not in (None, deed[2]) for ident in held])
    else:
        taken = False
    if taken:
        raise Taken("the name is given already")


def _writes_of(read, name, deed):
    """The deed's writes, in no order of their own."""
    word, table = deed[:2]
    if word == "end":
        return _ended(read, table)
    writes = [(("table", table), True)]
    if word == "column":
        return writes + _column(table, name[1:], deed)
    if word == "call":
        return writes + _called(read, table, deed[2], deed[3])
    if word == "kind" or word == "else":
        return writes + [((word, table, deed[2]), deed[3]), (("column", table, deed[2]), True)]
    if word == "put":
        return writes + _put(table, deed[2], deed[3])
    if word == "blank":
        return writes + _blanked(table, deed[2], deed[3])
    if word == "drop":
        return writes + _dropped(read, table, deed[2])
    if word == "leave":
        return writes + _left(read, table, deed[2])
    return writes


def _column(table, ident, deed):
    called, kind, value = deed[2:]
    writes = [
        (("column", table, ident), True), (("name", table, ident), called), (("slot", table, called), ident),
        (("kind", table, ident), kind)]
    if value is None:
        return writes
    return writes + [(("else", table, ident), value)]


def _called(read, table, ident, name):
    slot = ("slot", table, name)
    old = [(place, None) for place in _slots_held(read, table, ident) if place != slot]
    return old + [(("column", table, ident), True), (("name", table, ident), name), (slot, ident)]


def _slots_held(read, table, ident):
    """The slots, by the names that are read of the column, at which the column is read."""
    slots = [("slot", table, name) for name in read.get(("name", table, ident), ())]
    return [slot for slot in slots if ident in read.get(slot, ())]


def _put(table, key, cells):
    writes = [(("row", table, key), True)]
    for ident, value in cells:
        writes.append((("column", table, ident), True))
        writes.append((("cell", table, key, ident), value))
    return writes


def _blanked(table, key, ident):
    return [(("row", table, key), True), (("column", table, ident), True), (("cell", table, key, ident), None)]


def _dropped(read, table, key):
    start = ("cell", table, key)
    cells = [place for place in read if place[:3] == start and _is_there(read, place)]
    return [(("row", table, key), None)] + [(place, None) for place in cells]


def _left(read, table, ident):
    slots = _slots_held(read, table, ident)
    return [(("column", table, ident), None)] + [(slot, None) for slot in slots]


def _ended(read, table):
    its = [place for place in read if place[1] == table and place[0] in ENDED]
    return [(("table", table), None)] + [(place, None) for place in its if _is_there(read, place)]
