"""Ways: who has the last say at each clashing place, where one order gives it to them all.

Many places may have the same lasts. In an order just one of these comes last,
so it has the last say at all these places: what is chosen is one of each GROUP
of lasts, not one for each place.
"""

from forkrolls.cells.places import is_place
from forkrolls.errors import NoWay, TooWide
from forkrolls.readings.lasts import clashing, names_of
from forkrolls.webs.lots import need_lot
from forkrolls.webs.orders import masks_of, need_most, ranked, writers_of
from forkrolls.webs.webs import bits_of, is_deed_name, mask_of, need_web

MOST_WAYS = 200


def ways_of(web, lot, *, most=MOST_WAYS):
    """Rising, the ways to which orders lead, at most so many."""
    need_web(web)
    need_lot(web, lot)
    need_most(most)
    return tuple(sorted(ways_within(web, clashing(web, lot), most)))


def is_way(web, lot, thing):
    """Whether thing is a way of the lot."""
    need_web(web)
    need_lot(web, lot)
    return _is_way(writers_of(web, lot), clashing(web, lot), thing)


def order_by(web, lot, way):
    """An order in which each that the way names comes behind all others that write its place."""
    need_web(web)
    need_lot(web, lot)
    writers = writers_of(web, lot)
    clashed = clashing(web, lot)
    if not _is_way(writers, clashed, way):
        raise NoWay("a way names a last of each clashing place, such that an order leads to them all")
    return orders_along(writers, clashed, [way])[0]


def _is_way(writers, clashed, thing):
    if not isinstance(thing, tuple) or len(thing) != len(clashed):
        return False
    for part, (place, last) in zip(thing, clashed):
        if not _is_choice(part, place, names_of(last)):
            return False
    return len(orders_along(writers, clashed, [thing])[0]) == len(writers)


def _is_choice(thing, place, names):
    if not isinstance(thing, tuple) or len(thing) != 2:
        return False
    there, name = thing
    # What is no place, no name may be alike to one: a truth is alike to a number.
    return is_place(there) and there == place and is_deed_name(name) and name in names


def orders_along(writers, clashed, ways):
    """For each of the ways the writers in an order that leads to it; where none does, just those that can come."""
    names = ranked(writers)
    bits, behind = masks_of(writers)
    groups = [mask_of(bits, names_of(last)) for _, last in clashed]
    found = []
    for way in ways:
        waits = {name: mask for name, mask in behind.items()}
        for (_, chosen), group in zip(way, groups):
            waits[chosen] |= group - bits[chosen]
        found.append(_behind_one_another(names, bits, waits))
    return found


def _behind_one_another(names, bits, behind):
    """The names, each behind those of its mask; without those that can't come so."""
    found = []
    mask = 0
    left = names
    while True:
        waiting = []
        for name in left:
            if (mask | behind[name]) == mask:
                found.append(name)
                mask |= bits[name]
            else:
                waiting.append(name)
        if len(waiting) == len(left):
            return tuple(found)
        left = waiting


def ways_within(web, clashed, most):
    """The ways, in no order of their own; refused where there are more than most."""
    groups = {tuple(names_of(last)): True for _, last in clashed}
    bits, before = _masks_between(web, groups)
    begun = [before]
    for group in groups:
        begun = _begun_further(begun, bits, group, most)
    return [_way_of(clashed, bits, before) for before in begun]


def _masks_between(web, groups):
    """A bit for each deed of the groups, and the mask of those of them that it knows.

    Nobody else matters: what a deed knows through others it knows itself.
    """
    bits = bits_of(sorted({name for group in groups for name in group}))
    known = {name: knows for name, knows, _ in web}
    return bits, {name: mask_of(bits, [each for each in known[name] if each in bits]) for name in bits}


def _begun_further(begun, bits, group, most):
    """The choices begun, each with one more of the group, as masks of who comes before whom.

    By any order that keeps to the masks one of each group left comes last, too:
    so each beginning goes on to a way of its own, and where there are more
    beginnings than most, there are more ways, too.
    """
    further = []
    for before in begun:
        for name in _who_may_be_last(before, bits, group):
            further.append(_with_last(before, bits, group, name))
        if len(further) > most:
            raise TooWide("the lot has more ways than most")
    return further


def _who_may_be_last(before, bits, group):
    """Those of the group that come before none of it."""
    mask = 0
    for name in group:
        mask |= before[name]
    return [name for name in group if (mask & bits[name]) == 0]


def _with_last(before, bits, group, name):
    """Who comes before whom, where all others of the group come before the name, too."""
    mask = before[name] | (mask_of(bits, group) - bits[name])
    if mask == before[name]:
        return before
    for each in group:
        mask |= before[each]
    return {each: _gained(behind, bits[each] | behind, bits[name], mask) for each, behind in before.items()}


def _gained(behind, reach, bit, mask):
    """What comes before a deed, with all of the mask where the bit's deed is within its reach."""
    if (reach & bit) == 0:
        return behind
    return behind | mask


def _way_of(clashed, bits, before):
    return tuple([(place, _who_may_be_last(before, bits, names_of(last))[0]) for place, last in clashed])
