"""Tables, columns and rows: what a state is read as."""

from forkrolls.cells.names import need_key, need_name
from forkrolls.cells.states import cells_of, need_state


def tables_of(state):
    """The tables that a state has."""
    need_state(state)
    return tuple([place[1] for place, _ in state if place[0] == "table"])


def columns_of(state, table):
    """Rising (name, id) of the columns of a table."""
    need_state(state)
    need_name(table)
    return tuple(_columns(cells_of(state), table))


def rows_of(state, table):
    """Rising (key, pairs) of the rows of a table."""
    need_state(state)
    need_name(table)
    return tuple(rows_within(cells_of(state), table))


def rows_within(cells, table):
    """Rising (key, pairs) of the rows of a table, of what stands by its place."""
    columns = _columns(cells, table)
    return [(key, _pairs(cells, table, key, columns)) for key in _keys(cells, table)]


def row_of(state, table, key):
    """The pairs of one row, or None of a row that isn't there."""
    need_state(state)
    need_name(table)
    need_key(key)
    cells = cells_of(state)
    if ("table", table) not in cells or ("row", table, key) not in cells:
        return None
    return _pairs(cells, table, key, _columns(cells, table))


def _columns(cells, table):
    """The columns, rising as the places in cells do."""
    if ("table", table) not in cells:
        return []
    slots = [(place[2], what) for place, what in cells.items() if place[:2] == ("slot", table)]
    return [(name, ident) for name, ident in slots if _is_column(cells, table, name, ident)]


def _is_column(cells, table, name, ident):
    # The slot and the column's name must agree: no two columns show one name then.
    return cells.get(("name", table, ident)) == name and ("column", table, ident) in cells


def _keys(cells, table):
    if ("table", table) not in cells:
        return []
    return [place[2] for place in cells if place[:2] == ("row", table)]


def _pairs(cells, table, key, columns):
    pairs = [(name, _shown(cells, table, key, ident)) for name, ident in columns]
    return tuple([(name, value) for name, value in pairs if value is not None])


def _shown(cells, table, key, ident):
    """What a row shows in a column: its cell, else what stands for those without, or None."""
    kind = cells.get(("kind", table, ident), "any")
    for place in (("cell", table, key, ident), ("else", table, ident)):
        value = cells.get(place)
        if value is not None and _is_of_kind(value, kind):
            return value
    return None


def _is_of_kind(value, kind):
    if kind == "number":
        return isinstance(value, int)
    if kind == "word":
        return isinstance(value, str)
    return True
