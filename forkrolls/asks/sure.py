"""Sure and perhaps: the rows that a question tells in every world of a lot, and in some."""

from forkrolls.asks.answers import answer_on, by_text
from forkrolls.asks.questions import need_question, need_row, tables_within
from forkrolls.readings.lasts import clashing
from forkrolls.webs.lots import need_lot
from forkrolls.webs.orders import need_most, writers_of
from forkrolls.webs.webs import need_web
from forkrolls.worlds.ways import MOST_WAYS, orders_along
from forkrolls.worlds.worlds import cells_along, ends_within


def sure(web, lot, question, *, most=MOST_WAYS):
    """By text, the rows that the question tells in every world."""
    need_asked(web, lot, question)
    need_most(most)
    return sure_and_perhaps(web, lot, question, most)[0]


def perhaps(web, lot, question, *, most=MOST_WAYS):
    """By text, the rows that the question tells in some world, not in every one."""
    need_asked(web, lot, question)
    need_most(most)
    return sure_and_perhaps(web, lot, question, most)[1]


def order_with(web, lot, question, row, *, most=MOST_WAYS):
    """An order by which the plain store tells the row, or None."""
    need_asked(web, lot, question)
    need_row(row)
    need_most(most)
    return _order_where(web, lot, question, row, most, True)


def order_without(web, lot, question, row, *, most=MOST_WAYS):
    """An order by which the plain store doesn't tell the row, or None."""
    need_asked(web, lot, question)
    need_row(row)
    need_most(most)
    return _order_where(web, lot, question, row, most, False)


def need_asked(web, lot, question):
    """Refuse what is no web, no lot of it, or no question."""
    need_web(web)
    need_lot(web, lot)
    need_question(question)


def sure_and_perhaps(web, lot, question, most):
    """By text, the sure rows, and those that are told in some worlds alone."""
    # Where worlds are alike at the question's tables, it tells the same: one of these is enough.
    lasting, ways = ends_within(web, lot, tables_within(question), most)
    many = {}
    for way in ways:
        for row in answer_on(cells_along(lasting, way), question):
            many[row] = many.get(row, 0) + 1
    always = [row for row in many if many[row] == len(ways)]
    return by_text(always), by_text([row for row in many if many[row] < len(ways)])


def _order_where(web, lot, question, row, most, wanted):
    """An order by which it is as wanted whether the row is told, or None."""
    lasting, ways = ends_within(web, lot, tables_within(question), most)
    # All ways are asked, even behind one that is found: the answer may be too wide in any.
    found = [way for way in ways if (row in answer_on(cells_along(lasting, way), question)) == wanted]
    if len(found) == 0:
        return None
    return order_along(web, lot, found[0])


def order_along(web, lot, way):
    """An order that leads to what is surely a way of the lot."""
    return orders_along(writers_of(web, lot), clashing(web, lot), [way])[0]
