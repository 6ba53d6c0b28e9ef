"""Standing: which deeds of a lot no standing strike of it names."""

from forkrolls.errors import Lacking
from forkrolls.webs.lots import need_lot
from forkrolls.webs.webs import is_deed_name, need_web


def standing(web, lot):
    """Rising, the standing deeds of a lot."""
    need_web(web)
    need_lot(web, lot)
    return standing_names(web, lot)


def stands(web, lot, name):
    """Whether a deed of the lot stands in it."""
    need_web(web)
    need_lot(web, lot)
    if not is_deed_name(name) or name not in lot:
        raise Lacking(name)
    return name in standing_names(web, lot)


def standing_names(web, lot):
    """The standing deeds of what is surely a lot of a web."""
    members = {name: True for name in lot}
    struck = {}
    for name, what in _latest_first(web):
        if what[0] == "strike" and name in members and name not in struck:
            struck[what[1]] = True
    return tuple([name for name in lot if name not in struck])


def _latest_first(web):
    # Whoever knows a deed knows more than it, so what is known comes behind.
    ranked = sorted([(-len(knows), name, what) for name, knows, what in web])
    return [(name, what) for _, name, what in ranked]
