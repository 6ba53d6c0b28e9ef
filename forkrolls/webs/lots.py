"""Lots: deeds of a web, with each all that it knows."""

from forkrolls.cells.names import need_names
from forkrolls.errors import Lacking, NoLot
from forkrolls.webs.webs import (
    are_deed_names, are_in, behind_of, bits_of, is_closed, is_deed_name, mask_of, need_web)


def is_lot(web, thing):
    """Whether thing is a lot of the web."""
    need_web(web)
    return _are_lots(web, (thing,))


def _are_lots(web, things):
    bits = bits_of(whole_names(web))
    behind = behind_of(web, bits)
    return all([_is_lot(bits, behind, thing) for thing in things])


def _is_lot(bits, behind, thing):
    if not are_deed_names(thing) or not are_in(bits, thing):
        return False
    return is_closed(behind, mask_of(bits, thing), thing)


def need_lot(web, lot):
    """Refuse what is no lot of the web."""
    if not _are_lots(web, (lot,)):
        raise NoLot("a lot is a rising row of deeds' names, with each all that it knows")


def need_lots(web, lots):
    """Refuse what is no row of one or more lots of the web."""
    if not isinstance(lots, tuple) or len(lots) == 0 or not _are_lots(web, lots):
        raise NoLot("lots are a row of one or more lots of the web")


def whole_of(web):
    """The lot of all deeds."""
    need_web(web)
    return whole_names(web)


def whole_names(web):
    """The names of all deeds of what is surely a web."""
    return tuple([name for name, _, _ in web])


def least_lot(web, names):
    """The lot of just these names and what they know."""
    need_web(web)
    if not isinstance(names, tuple):
        raise NoLot("the names of a least lot are a row")
    knows = {name: known for name, known, _ in web}
    for name in names:
        if not is_deed_name(name) or name not in knows:
            raise Lacking(name)
    return put_together([knows[name] for name in names] + [names])


def put_together(rows):
    """Rising, all the names that any of the rows has."""
    found = {}
    for row in rows:
        for name in row:
            found[name] = True
    return tuple(sorted(found))


def tops_of(web, lot):
    """Those of a lot that none of it knows."""
    need_web(web)
    need_lot(web, lot)
    members = {name: True for name in lot}
    known = {}
    for name, knows, _ in web:
        if name in members:
            for below in knows:
                known[below] = True
    return tuple([name for name in lot if name not in known])


def together(web, lots):
    """The lot of all that any of the lots has."""
    need_web(web)
    need_lots(web, lots)
    return put_together(lots)


def common(web, lots):
    """The lot of what each of the lots has."""
    need_web(web)
    need_lots(web, lots)
    return in_each(lots)


def in_each(lots):
    """Rising, the names that each of what surely are lots has."""
    many = {}
    for lot in lots:
        for name in lot:
            many[name] = many.get(name, 0) + 1
    return tuple([name for name in lots[0] if many[name] == len(lots)])


def seen(web, tables):
    """The web of just the deeds of these tables, knows cut to these."""
    need_web(web)
    need_names(tables)
    return seen_at(web, tables)


def seen_at(web, tables):
    """The web of just the deeds of these tables, of what is surely a web."""
    kept = {table: True for table in tables}
    return tuple([(name, _cut(knows, kept), what) for name, knows, what in web if name[0] in kept])


def lot_seen(web, lot, tables):
    """The lot cut to the deeds of these tables."""
    need_web(web)
    need_lot(web, lot)
    need_names(tables)
    return _cut(lot, {table: True for table in tables})


def _cut(names, kept):
    return tuple([name for name in names if name[0] in kept])
