"""Remnants: what is left of a web, where lots of it are held that all have much in common."""

from forkrolls.errors import NoLot
from forkrolls.readings.lasts import all_last
from forkrolls.webs.lots import in_each, need_lots, put_together
from forkrolls.webs.orders import ranked
from forkrolls.webs.standing import standing_names
from forkrolls.webs.webs import are_deed_names, need_web


def shaken(web, lots):
    """Rising, the deeds of common that may come to stand otherwise in one of the lots."""
    need_web(web)
    need_lots(web, lots)
    return tuple(sorted(_shaken(web, lots, in_each(lots))))


def _shaken(web, lots, shared):
    """As keys, the deeds of common that are shaken."""
    every = {name: True for name in put_together(lots)}
    inner = {name: True for name in shared}
    whats = {name: what for name, _, what in web}
    found = {}
    # From the latest back: a strike comes behind all that it names.
    for name in reversed(ranked(web)):
        word, part = whats[name]
        moves = name in found or (name in every and name not in inner)
        if word == "strike" and moves and part in inner:
            found[part] = True
    return found


def remnant(web, lots):
    """The web of what is left, and rising, which of it are settled."""
    need_web(web)
    need_lots(web, lots)
    return remnant_within(web, lots)


def remnant_within(web, lots):
    """The remnant, of what surely are a web and one or more of its lots."""
    shared = in_each(lots)
    left = _left_of(web, lots, shared)
    kept = tuple([(name, _among(knows, left), left[name]) for name, knows, _ in web if name in left])
    return kept, _among(shared, left)


def _left_of(web, lots, shared):
    """By the name of each deed that is left what is left of it."""
    loose = _shaken(web, lots, shared)
    inner = {name: True for name in shared}
    whole = {name: True for name in put_together(lots) if name in loose or name not in inner}
    left = {name: what for name, _, what in web if name in whole}
    firm = {name: True for name in standing_names(web, shared) if name not in loose}
    deeds = [deed for deed in web if deed[0] in firm]
    left.update(_last_writes([deed for deed in deeds if deed[2][0] == "writes"]))
    # What a firm standing strike names doesn't stand: it is left where it is shaken alone.
    for name, _, what in deeds:
        if what[0] == "strike" and what[1] in left:
            left[name] = what
    return left


def _last_writes(writers):
    """What each of the writers writes where it is a last, if anything."""
    found = {}
    for place, said in sorted(all_last(writers).items()):
        for name, value in said:
            found.setdefault(name, []).append((place, value))
    return {name: ("writes", tuple(writes)) for name, writes in found.items()}


def cut_lot(web, lot):
    """Those of a lot, of this web or another, that the web has."""
    need_web(web)
    if not are_deed_names(lot):
        raise NoLot("a lot is a rising row of deeds' names")
    return cut_within(web, lot)


def cut_within(web, lot):
    """The lot cut, of what surely are a web and a rising row of deeds' names."""
    return _among(lot, {name: True for name, _, _ in web})


def _among(names, kept):
    return tuple([name for name in names if name in kept])
