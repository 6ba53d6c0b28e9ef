"""Webs: deeds by their names, with what each knows and what it is."""

from forkrolls.cells.names import MOST_NUMBER, is_hand, is_name, is_whole, rises
from forkrolls.cells.places import is_writes
from forkrolls.errors import Lacking, NoWeb


def is_deed_name(thing):
    """Whether thing is a deed's name."""
    if not isinstance(thing, tuple) or len(thing) != 4:
        return False
    table, hand, branch, number = thing
    return is_name(table) and is_hand(hand) and is_name(branch) and is_whole(number, 0, MOST_NUMBER)


def are_deed_names(thing):
    """Whether thing is a rising row of deeds' names."""
    if not isinstance(thing, tuple):
        return False
    return all([is_deed_name(part) for part in thing]) and rises(thing)


def is_web(thing):
    """Whether thing is a web."""
    if not isinstance(thing, tuple) or not all([_is_formed(part) for part in thing]):
        return False
    return rises([deed[0] for deed in thing]) and _hangs_together(thing)


def _is_formed(thing):
    """Whether thing looks as a deed of a web does, whatever else the web has."""
    if not isinstance(thing, tuple) or len(thing) != 3:
        return False
    name, knows, what = thing
    return is_deed_name(name) and are_deed_names(knows) and _is_what(what, name[0])


def _is_what(thing, table):
    if not isinstance(thing, tuple) or len(thing) != 2:
        return False
    word, part = thing
    if word == "writes":
        return is_writes(part) and part[0][0][1] == table
    return word == "strike" and is_deed_name(part) and part[0] == table


def _hangs_together(web):
    """Whether all that the deeds know is in the web, is closed, and has what they strike."""
    bits = bits_of([deed[0] for deed in web])
    for _, knows, _ in web:
        if not are_in(bits, knows):
            return False
    behind = behind_of(web, bits)
    for name, knows, what in web:
        if (behind[name] & bits[name]) != 0 or not is_closed(behind, behind[name], knows):
            return False
        if what[0] == "strike" and what[1] not in knows:
            return False
    return True


def bits_of(names):
    """A bit of its own for each of the names, so that a number can stand for some of them."""
    return {name: 1 << at for at, name in enumerate(names)}


def mask_of(bits, names):
    """The number that stands for these names."""
    mask = 0
    for name in names:
        mask |= bits[name]
    return mask


def are_in(bits, names):
    """Whether each of the names has a bit."""
    return all([name in bits for name in names])


def behind_of(web, bits):
    """By each deed's name the number that stands for all that it knows."""
    return {name: mask_of(bits, knows) for name, knows, _ in web}


def is_closed(behind, mask, names):
    """Whether the names, for which the mask stands, have with each all that it knows."""
    return all([(behind[name] | mask) == mask for name in names])


def need_web(thing):
    """Refuse what is no web."""
    if not is_web(thing):
        raise NoWeb("a web is a rising row of deeds, each with all that it knows and what it is")


def knows_of(web, name):
    """The names that a deed of the web knows."""
    return _deed_of(web, name)[1]


def what_of(web, name):
    """What a deed of the web is: its writes, or its strike."""
    return _deed_of(web, name)[2]


def _deed_of(web, name):
    need_web(web)
    # A name with a truth in it would be found as the one with a number there.
    if is_deed_name(name):
        for deed in web:
            if deed[0] == name:
                return deed
    raise Lacking(name)
