"""Places, what may stand there, and writes."""

from forkrolls.cells.names import is_id, is_key, is_kind, is_name, is_value, rises
from forkrolls.errors import NoPlace

BARE_WORDS = ("table", "column", "row")
ID_WORDS = ("column", "name", "kind", "else")


def is_place(thing):
    """Whether thing is a place."""
    if not isinstance(thing, tuple) or len(thing) < 2 or not is_name(thing[1]):
        return False
    word = thing[0]
    rest = thing[2:]
    if len(rest) == 0:
        return word == "table"
    if len(rest) == 2:
        return word == "cell" and is_key(rest[0]) and is_id(rest[1])
    return len(rest) == 1 and _may_follow(word, rest[0])


def _may_follow(word, part):
    if word == "row":
        return is_key(part)
    if word == "slot":
        return is_name(part)
    return word in ID_WORDS and is_id(part)


def need_place(thing):
    """Refuse what is no place."""
    if not is_place(thing):
        raise NoPlace("a place is a word, a table and what the word asks for")


def table_of(place):
    """The table that a place is of."""
    need_place(place)
    return place[1]


def may_stand(place, thing):
    """Whether thing may stand at the place."""
    need_place(place)
    return _fits(place[0], thing)


def _fits(word, thing):
    if word in BARE_WORDS:
        return thing is True
    if word == "name":
        return is_name(thing)
    if word == "slot":
        return is_id(thing)
    if word == "kind":
        return is_kind(thing)
    return is_value(thing)


def is_laid(thing, none_too):
    """Whether thing is rising (place, what may stand there, perhaps None), places unlike."""
    if not isinstance(thing, tuple):
        return False
    # Only what are places is sorted: other things need not bear to be compared.
    if not all([_is_pair(part, none_too) for part in thing]):
        return False
    return rises([place for place, _ in thing])


def _is_pair(thing, none_too):
    if not isinstance(thing, tuple) or len(thing) != 2:
        return False
    place, what = thing
    if not is_place(place):
        return False
    return _fits(place[0], what) or (none_too and what is None)


def is_writes(thing):
    """Whether thing is a row of writes."""
    if not is_laid(thing, True) or len(thing) == 0:
        return False
    table = thing[0][0][1]
    return all([place[1] == table for place, _ in thing])
