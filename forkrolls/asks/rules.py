"""Rules: questions that are to tell nothing in any world."""

from forkrolls.asks.answers import answer_on
from forkrolls.asks.questions import is_row, need_question, tables_within
from forkrolls.asks.sure import need_asked, order_along
from forkrolls.cells.states import cells_of
from forkrolls.webs.lots import need_lot, put_together
from forkrolls.webs.orders import comes_right, end_of, masks_of, need_most, writers_of
from forkrolls.webs.webs import need_web
from forkrolls.worlds.ways import MOST_WAYS
from forkrolls.worlds.worlds import cells_along, ends_within


def kept_or_broken(web, lot, rule, *, most=MOST_WAYS):
    """That the rule is kept, or a row that it tells, with an order by which it does."""
    need_asked(web, lot, rule)
    need_most(most)
    return _told_of(web, lot, rule, most)


def shows_rule(web, lot, rule, thing, *, most=MOST_WAYS):
    """Whether thing is what can be told of the rule."""
    need_asked(web, lot, rule)
    need_most(most)
    told = _told_of(web, lot, rule, most)
    if not isinstance(thing, tuple) or len(thing) != len(told) or thing[0] != told[0]:
        return False
    return told[0] == "kept" or _is_broken_by(web, lot, rule, thing[1], thing[2])


def kept_together(web, one, other, rule, *, most=MOST_WAYS):
    """Which of two lots breaks the rule, or else what is told of both together."""
    need_web(web)
    need_lot(web, one)
    need_lot(web, other)
    need_question(rule)
    need_most(most)
    for at, lot in enumerate((one, other)):
        if _told_of(web, lot, rule, most) != ("kept",):
            return ("ahead", at)
    return _told_of(web, put_together((one, other)), rule, most)


def _told_of(web, lot, rule, most):
    lasting, ways = ends_within(web, lot, tables_within(rule), most)
    broken = []
    # All ways are asked, even behind one that is found: the answer may be too wide in any.
    for way in ways:
        rows = list(answer_on(cells_along(lasting, way), rule))
        if len(broken) == 0 and len(rows) > 0:
            broken = [rows[0], way]
    if len(broken) == 0:
        return ("kept",)
    row, way = broken
    return ("broken", row, order_along(web, lot, way))


def _is_broken_by(web, lot, rule, row, order):
    """Whether these are a row and an order by which the plain store tells it."""
    writers = writers_of(web, lot)
    if not is_row(row) or not comes_right(masks_of(writers), order):
        return False
    return row in answer_on(cells_of(end_of(writers, order)), rule)
