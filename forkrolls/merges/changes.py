"""Changes: where two lots read unlike, and which places deeds have touched."""

from forkrolls.errors import Lacking, NoLot
from forkrolls.readings.lasts import readings_of
from forkrolls.webs.lots import need_lot
from forkrolls.webs.orders import ranked
from forkrolls.webs.webs import is_deed_name, need_web


def changes(web, one, other):
    """Rising (place, one's reading, the other's) where these are unlike."""
    need_web(web)
    need_lot(web, one)
    need_lot(web, other)
    read = readings_of(web, one)
    others = readings_of(web, other)
    places = list(read) + [place for place in others if place not in read]
    rows = [(place, read.get(place, ()), others.get(place, ())) for place in sorted(places)]
    return tuple([row for row in rows if row[1] != row[2]])


def root_of(web, name):
    """The deed with writes that is struck or brought back by the deed of this name, or is it."""
    need_web(web)
    if is_deed_name(name):
        roots = roots_within(web)
        if name in roots:
            return roots[name]
    raise Lacking(name)


def roots_within(web):
    """By the name of each deed of what is surely a web that of its root."""
    whats = {name: what for name, _, what in web}
    roots = {}
    # What a strike names is ranked ahead of it.
    for name in ranked(web):
        word, part = whats[name]
        if word == "strike":
            roots[name] = roots[part]
        else:
            roots[name] = name
    return roots


def touched(web, lot, within):
    """Rising, the places that the roots of the lot's deeds write, of those beyond a lot within it."""
    need_web(web)
    need_lot(web, lot)
    need_lot(web, within)
    members = {name: True for name in lot}
    if not all([name in members for name in within]):
        raise NoLot("the second lot is not within the first")
    return tuple(sorted(touched_within(web, lot, within)))


def touched_within(web, lot, within):
    """As keys, the places that what surely is a lot touches beyond another lot."""
    old = {name: True for name in within}
    roots = roots_within(web)
    whats = {name: what for name, _, what in web}
    found = {}
    for name in lot:
        if name not in old:
            for place, _ in whats[roots[name]][1]:
                found[place] = True
    return found
