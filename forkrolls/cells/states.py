"""States: what stands in a plain store, and writes done on it."""

from forkrolls.cells.names import need_names
from forkrolls.cells.places import is_laid, is_writes, need_place
from forkrolls.errors import NoState, NoWrites


def is_state(thing):
    """Whether thing is a state."""
    return is_laid(thing, False)


def need_state(thing):
    """Refuse what is no state."""
    if not is_state(thing):
        raise NoState("a state is a rising row of places and what stands there")


def done(state, writes):
    """The state behind writes done on a state."""
    need_state(state)
    if not is_writes(writes):
        raise NoWrites("writes are a rising row of places of one table and what is put there")
    cells = cells_of(state)
    put_in(cells, writes)
    return state_of(cells)


def value_at(state, place):
    """What stands at a place, or None."""
    need_state(state)
    need_place(place)
    return cells_of(state).get(place)


def of_tables(state, tables):
    """The state of these tables alone."""
    need_state(state)
    need_names(tables)
    kept = {table: True for table in tables}
    return tuple([(place, what) for place, what in state if place[1] in kept])


def cells_of(state):
    """A new dict of what stands in a state, by its place."""
    return {place: what for place, what in state}


def state_of(cells):
    """The state in which stands what a dict has by its place."""
    return tuple(sorted(cells.items()))


def put_in(cells, writes):
    """Do writes on what stands, a dict that is the caller's own."""
    for place, what in writes:
        if what is None:
            cells.pop(place, None)
        else:
            cells[place] = what
