"""Whence a row of an answer comes, and who stands behind a row of a table."""

from forkrolls.asks.answers import roll_of, told_by
from forkrolls.asks.questions import is_question, need_row, parts_of, tables_within
from forkrolls.cells.names import is_key, is_name, need_key, need_name, rises
from forkrolls.cells.states import cells_of, need_state
from forkrolls.errors import NoAnswer, NoQuestion, NoRow
from forkrolls.readings.lasts import all_last, names_of
from forkrolls.webs.lots import need_lot
from forkrolls.webs.orders import writers_of
from forkrolls.webs.webs import need_web

# By these, more rows of tables never tell less.
SIMPLE = ("roll", "where", "same", "keep", "call", "join", "either")


def is_simple(thing):
    """Whether thing is a simple question."""
    return is_question(thing) and all([part[0] in SIMPLE for part in parts_of(thing)])


def only_rows(state, rows):
    """The state without all rows but these."""
    need_state(state)
    if not _are_rows(rows):
        raise NoRow("the rows of tables are a rising row of a table and a key each")
    return tuple([(place, what) for place, what in state if place[0] != "row" or place[1:] in rows])


def _are_rows(thing):
    """Whether thing is rising (table, key)."""
    return isinstance(thing, tuple) and all([_is_row(part) for part in thing]) and rises(thing)


def _is_row(thing):
    return isinstance(thing, tuple) and len(thing) == 2 and is_name(thing[0]) and is_key(thing[1])


def whence(state, question, row):
    """Rising (table, key) of rows without any one of which the row wouldn't be told."""
    rolls = _rolls_of(state, question, row)
    sources = told_by(rolls, question)
    _need_told(sources, row)
    left = sorted({source for source in sources[row]})
    for source in list(left):
        fewer = [each for each in left if each != source]
        if _tells(rolls, question, row, fewer):
            left = fewer
    return tuple(left)


def shows_whence(state, question, row, thing):
    """Whether thing is rising (table, key) of rows without any one of which the row wouldn't be told."""
    rolls = _rolls_of(state, question, row)
    _need_told(told_by(rolls, question), row)
    # Each roll within has a part in it by one row: where there are more, one can be left out.
    if not _are_rows(thing) or len(thing) > len(parts_of(question)):
        return False
    if not _tells(rolls, question, row, thing):
        return False
    less = [[each for each in thing if each != source] for source in thing]
    return not any([_tells(rolls, question, row, fewer) for fewer in less])


def _rolls_of(state, question, row):
    """By each table the question's rolls, with each row whence it comes; refused what is none."""
    need_state(state)
    if not is_simple(question):
        raise NoQuestion("whence is told of simple questions alone")
    need_row(row)
    cells = cells_of(state)
    return {table: {told: ((table, key),) for key, told in roll_of(cells, table)}
            for table in tables_within(question)}


def _need_told(rows, row):
    if row not in rows:
        raise NoAnswer("the question doesn't tell this row")


def _tells(rolls, question, row, sources):
    """Whether the row is told where the tables have just these rows."""
    few = {table: _only(rows, sources) for table, rows in rolls.items()}
    return row in told_by(few, question)


def _only(rows, sources):
    return {row: named for row, named in rows.items() if named[0] in sources}


def behind(web, lot, table, key):
    """Rising (place, lasts) of the row's place and its cells' places, where a standing deed writes."""
    need_web(web)
    need_lot(web, lot)
    need_name(table)
    need_key(key)
    return behind_within(web, lot, table, key)


def behind_within(web, lot, table, key):
    """Who stands behind the row, of what surely are a web, its lot, a table's name and a key."""
    found = all_last(writers_of(web, lot))
    rows = [(place, tuple(names_of(last))) for place, last in found.items() if _is_of_row(place, table, key)]
    return tuple(sorted(rows))


def _is_of_row(place, table, key):
    return place[0] in ("row", "cell") and place[1:3] == (table, key)
