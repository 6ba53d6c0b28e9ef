"""Papers: what shows that a place is agreed upon, or that it clashes."""

from forkrolls.cells.places import may_stand, need_place
from forkrolls.errors import Lacking
from forkrolls.readings.lasts import last_at, names_of, values_of
from forkrolls.webs.lots import need_lot
from forkrolls.webs.orders import comes_right, masks_of, ranked, writers_of
from forkrolls.webs.webs import is_deed_name, need_web


def order_to(web, lot, place, name):
    """An order in which this last at the place comes behind all others that write there."""
    need_web(web)
    need_lot(web, lot)
    need_place(place)
    if not is_deed_name(name) or name not in names_of(last_at(web, lot, place)):
        raise Lacking(name)
    return _order_up_to(writers_of(web, lot), name)


def _order_up_to(writers, name):
    """An order in which none comes behind the deed but those that know it."""
    later = {each: True for each, knows, _ in writers if name in knows}
    row = ranked(writers)
    ahead = [each for each in row if each != name and each not in later]
    return (*ahead, name, *[each for each in row if each in later])


def why(web, lot, place):
    """What shows that the place is agreed upon, or else that it clashes."""
    need_web(web)
    need_lot(web, lot)
    need_place(place)
    return why_within(web, lot, place)


def why_within(web, lot, place):
    """What shows it, of what surely are a web, its lot and a place."""
    last = last_at(web, lot, place)
    values = values_of(last)
    writers = writers_of(web, lot)
    if len(values) > 1:
        one, other = _first_of(last, values[0]), _first_of(last, values[1])
        return ("clash", _order_up_to(writers, one), _order_up_to(writers, other))
    value = None
    if values != ():
        value = values[0]
    return ("agreed", value, _outdone(_writers_at(writers, place), names_of(last), value))


def _first_of(last, value):
    """The first of the lasts that writes the value."""
    names = [name for name, written in last if written == value]
    return names[0]


def _writers_at(writers, place):
    """Rising (name, knows, what it writes there) of those that write the place."""
    return [(name, knows, value) for name, knows, what in writers for there, value in what[1] if there == place]


def _outdone(writers, names, value):
    """Each writer of another value, with one of the lasts' names that knows it."""
    knower = {}
    for name, knows, _ in writers:
        if name in names:
            for known in knows:
                knower[known] = name
    return tuple([(name, knower[name]) for name, _, written in writers if written != value])


def shows_why(web, lot, place, thing):
    """Whether thing shows that the place is agreed upon, or that it clashes."""
    need_web(web)
    need_lot(web, lot)
    need_place(place)
    if not isinstance(thing, tuple) or len(thing) != 3:
        return False
    word, one, other = thing
    writers = writers_of(web, lot)
    if word == "agreed":
        return _shows_agreed(_writers_at(writers, place), place, one, other)
    return word == "clash" and _shows_clash(writers, place, one, other)


def _shows_agreed(writers, place, value, rows):
    if not _is_written(writers, place, value) or not _are_pairs(rows):
        return False
    if [writer for writer, _ in rows] != [name for name, _, written in writers if written != value]:
        return False
    knows = {name: known for name, known, _ in writers}
    return all([by in knows and writer in knows[by] for writer, by in rows])


def _is_written(writers, place, value):
    """Whether the value is what one of the writers writes there, None where there is no writer."""
    if value is not None and not may_stand(place, value):
        return False
    if len(writers) == 0:
        return value is None
    return value in [written for _, _, written in writers]


def _are_pairs(thing):
    """Whether thing is a row of pairs of deeds' names."""
    return isinstance(thing, tuple) and all([_is_pair(part) for part in thing])


def _is_pair(thing):
    return isinstance(thing, tuple) and len(thing) == 2 and all([is_deed_name(part) for part in thing])


def _shows_clash(writers, place, one, other):
    masks = masks_of(writers)
    if not comes_right(masks, one) or not comes_right(masks, other):
        return False
    written = {name: value for name, _, value in _writers_at(writers, place)}
    return _end_at(written, one) != _end_at(written, other)


def _end_at(written, order):
    """What stands at the place by the order, None where nothing does."""
    end = None
    for name in order:
        if name in written:
            end = written[name]
    return end
