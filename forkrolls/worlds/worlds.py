"""Worlds: the unlike states in which plain stores end by the orders of a lot."""

from forkrolls.cells.states import is_state, state_of
from forkrolls.readings.lasts import all_last, clashing
from forkrolls.webs.lots import need_lot
from forkrolls.webs.orders import comes_right, end_of, masks_of, need_most, writers_of
from forkrolls.webs.webs import need_web
from forkrolls.worlds.ways import MOST_WAYS, orders_along, ways_within


def worlds_of(web, lot, *, most=MOST_WAYS):
    """By text of the states, each unlike state with an order by which it comes."""
    need_web(web)
    need_lot(web, lot)
    need_most(most)
    return worlds_within(web, lot, most)


def shows_worlds(web, lot, thing, *, most=MOST_WAYS):
    """Whether thing is what worlds_of tells, perhaps with other orders by which the states come."""
    need_web(web)
    need_lot(web, lot)
    need_most(most)
    worlds = worlds_within(web, lot, most)
    if not isinstance(thing, tuple) or len(thing) != len(worlds):
        return False
    writers = writers_of(web, lot)
    masks = masks_of(writers)
    return all([_comes_to(writers, masks, part, state) for part, (state, _) in zip(thing, worlds)])


def _comes_to(writers, masks, thing, state):
    """Whether thing is the state and an order by which it comes."""
    if not isinstance(thing, tuple) or len(thing) != 2:
        return False
    end, order = thing
    if end != state or not is_state(end):
        return False
    return comes_right(masks, order) and end_of(writers, order) == state


def worlds_within(web, lot, most):
    """The worlds of what is surely a lot; refused where there are more ways than most."""
    lasting, ways = ends_within(web, lot, [name[0] for name in lot], most)
    states = [state_of(cells_along(lasting, way)) for way in ways]
    orders = orders_along(writers_of(web, lot), clashing(web, lot), ways)
    return tuple(sorted(zip(states, orders), key=lambda world: repr(world[0])))


def ends_within(web, lot, tables, most):
    """What the lasts write at these tables' places, and ways to all unlike ends there, one to each.

    Refused where the lot has more ways than most, whatever its tables.
    """
    kept = {table: True for table in tables}
    ways = ways_within(web, clashing(web, lot), most)
    lasting = {}
    for place, said in all_last(writers_of(web, lot)).items():
        if place[1] in kept:
            lasting[place] = {name: value for name, value in said}
    found = {}
    for way in ways:
        found.setdefault(tuple([lasting[place][name] for place, name in way if place in lasting]), way)
    return lasting, list(found.values())


def cells_along(lasting, way):
    """What stands, by its place, where the way's names have their say, and else the first of the lasts."""
    cells = {place: list(said.values())[0] for place, said in lasting.items()}
    for place, name in way:
        if place in lasting:
            cells[place] = lasting[place][name]
    return {place: value for place, value in cells.items() if value is not None}
