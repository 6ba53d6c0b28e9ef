"""Lasts: the deeds that nobody who writes there knows, and what is read of them."""

from forkrolls.cells.places import need_place
from forkrolls.webs.lots import need_lot
from forkrolls.webs.orders import masks_of, writers_of
from forkrolls.webs.webs import need_web


def lasts(web, lot, place):
    """Rising, the lasts at a place."""
    need_web(web)
    need_lot(web, lot)
    need_place(place)
    return tuple(names_of(last_at(web, lot, place)))


def reading(web, lot, place):
    """What the lasts write at a place, each once, by text."""
    need_web(web)
    need_lot(web, lot)
    need_place(place)
    return values_of(last_at(web, lot, place))


def clashes(web, lot):
    """Rising, the places at which more than one thing is read."""
    need_web(web)
    need_lot(web, lot)
    return tuple([place for place, _ in clashing(web, lot)])


def clashing(web, lot):
    """Rising (place, what its lasts write) of the clashing places of what is surely a lot."""
    found = all_last(writers_of(web, lot))
    return sorted([(place, last) for place, last in found.items() if len(values_of(last)) > 1])


def readings_of(web, lot):
    """What is read at each place that a standing deed of what is surely a lot writes."""
    found = all_last(writers_of(web, lot))
    return {place: values_of(last) for place, last in found.items()}


def last_at(web, lot, place):
    """What the lasts at a place write, of what is surely a lot."""
    return all_last(writers_of(web, lot)).get(place, [])


def all_last(writers):
    """By each place that the writers write, rising (name, what it writes) of its lasts."""
    bits, behind = masks_of(writers)
    said = {}
    known = {}
    for name, _, what in writers:
        for place, value in what[1]:
            said.setdefault(place, []).append((name, value))
            known[place] = known.get(place, 0) | behind[name]
    return {place: _not_known(bits, known[place], row) for place, row in said.items()}


def _not_known(bits, mask, said):
    return [(name, value) for name, value in said if (bits[name] & mask) == 0]


def names_of(last):
    """The names of those that write."""
    return [name for name, _ in last]


def values_of(last):
    """The values that they write, each once, by text."""
    texts = {repr(value): value for _, value in last}
    return tuple([texts[text] for text in sorted(texts)])
