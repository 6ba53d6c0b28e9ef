"""Orders: how a plain store may do the standing deeds of a lot one by one."""

from forkrolls.cells.names import is_whole
from forkrolls.cells.states import put_in, state_of
from forkrolls.errors import NoNumber, NoOrder, TooWide
from forkrolls.webs.lots import need_lot
from forkrolls.webs.standing import standing_names
from forkrolls.webs.webs import bits_of, is_deed_name, mask_of, need_web

MOST_ORDERS = 400
HIGHEST_MOST = 10 ** 4


def is_order(web, lot, thing):
    """Whether thing is an order of the lot."""
    need_web(web)
    need_lot(web, lot)
    return comes_right(masks_of(writers_of(web, lot)), thing)


def order_of(web, lot):
    """An order of the lot."""
    need_web(web)
    need_lot(web, lot)
    return tuple(ranked(writers_of(web, lot)))


def many_orders(web, lot, *, most=MOST_ORDERS):
    """How many orders the lot has, at most so many."""
    need_web(web)
    need_lot(web, lot)
    need_most(most)
    bits, behind = masks_of(writers_of(web, lot))
    begun = {0: 1}
    for _ in bits:
        begun = _begun_further(begun, bits, behind, most)
    return sum(begun.values())


def state_by(web, lot, order):
    """The state in which a plain store ends by an order of the lot."""
    need_web(web)
    need_lot(web, lot)
    writers = writers_of(web, lot)
    if not comes_right(masks_of(writers), order):
        raise NoOrder("an order has all standing deeds with writes, each behind those that it knows")
    return end_of(writers, order)


def need_most(most):
    """Refuse what can't be asked for at most."""
    if not is_whole(most, 1, HIGHEST_MOST):
        raise NoNumber("most is a whole number from 1 to 10 ** 4")


def writers_of(web, lot):
    """The standing deeds with writes of what is surely a lot, as the web has them."""
    kept = {name: True for name in standing_names(web, lot)}
    return [deed for deed in web if deed[0] in kept and deed[2][0] == "writes"]


def ranked(writers):
    """The writers' names, each behind those of them that it knows."""
    # Whoever knows a deed knows more than it.
    ranks = sorted([(len(knows), name) for name, knows, _ in writers])
    return [name for _, name in ranks]


def masks_of(writers):
    """A bit for each of the writers, and the mask of those of them that it knows."""
    bits = bits_of([name for name, _, _ in writers])
    behind = {}
    for name, knows, _ in writers:
        behind[name] = mask_of(bits, [known for known in knows if known in bits])
    return bits, behind


def comes_right(masks, thing):
    """Whether thing is an order of just the writers that have these masks."""
    bits, behind = masks
    if not isinstance(thing, tuple) or len(thing) != len(bits):
        return False
    mask = 0
    for name in thing:
        if not is_deed_name(name) or name not in bits or not _may_come(mask, bits[name], behind[name]):
            return False
        mask |= bits[name]
    return True


def end_of(writers, order):
    """The state in which a plain store ends by what is surely an order of the writers."""
    writes = {name: what[1] for name, _, what in writers}
    cells = {}
    for name in order:
        put_in(cells, writes[name])
    return state_of(cells)


def _may_come(mask, bit, behind):
    """Whether a deed can come next, where those of the mask have come."""
    return (mask & bit) == 0 and (mask | behind) == mask


def _begun_further(begun, bits, behind, most):
    """How many beginnings of orders come to each mask, one deed further than those begun.

    Each beginning goes on to an order of its own, so where there are more
    beginnings than most, there are more orders, too.
    """
    further = {}
    ways = 0
    for mask, many in begun.items():
        for name, bit in bits.items():
            if _may_come(mask, bit, behind[name]):
                further[mask | bit] = further.get(mask | bit, 0) + many
                ways += many
                if ways > most:
                    raise TooWide("the lot has more orders than most")
    return further
