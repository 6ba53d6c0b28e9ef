"""Deeds as they are asked for, by eleven words."""

from forkrolls.cells.names import is_id, is_key, is_kind, is_name, is_value, rises
from forkrolls.errors import NoDeed
from forkrolls.webs.webs import is_deed_name

MOST_CELLS = 6


def is_deed(thing):
    """Whether thing is a deed that can be asked for."""
    if not isinstance(thing, tuple) or len(thing) < 2 or not is_name(thing[1]):
        return False
    word = thing[0]
    rest = thing[2:]
    if len(rest) == 0:
        return word == "table" or word == "end"
    if len(rest) == 1:
        return _is_of_one(word, rest[0])
    if len(rest) == 2:
        return _is_of_two(word, rest[0], rest[1])
    if word == "undo":
        return is_deed_name(thing[1:])
    return word == "column" and len(rest) == 3 and _is_column(rest[0], rest[1], rest[2])


def _is_of_one(word, part):
    if word == "drop":
        return is_key(part)
    return word == "leave" and is_id(part)


def _is_of_two(word, one, two):
    if word == "put":
        return is_key(one) and _are_cells(two)
    if word == "blank":
        return is_key(one) and is_id(two)
    if not is_id(one):
        return False
    if word == "call":
        return is_name(two)
    if word == "kind":
        return is_kind(two)
    return word == "else" and _may_be_else(two)


def _is_column(name, kind, value):
    return is_name(name) and is_kind(kind) and _may_be_else(value)


def _may_be_else(thing):
    return thing is None or is_value(thing)


def _are_cells(thing):
    """Whether thing is none to six rising (id, value), ids unlike."""
    if not isinstance(thing, tuple) or len(thing) > MOST_CELLS:
        return False
    return all([_is_cell(part) for part in thing]) and rises([ident for ident, _ in thing])


def _is_cell(thing):
    return isinstance(thing, tuple) and len(thing) == 2 and is_id(thing[0]) and is_value(thing[1])


def need_deed(thing):
    """Refuse what is no deed that can be asked for."""
    if not is_deed(thing):
        raise NoDeed("a deed is one of eleven words, a table and what the word asks for")
