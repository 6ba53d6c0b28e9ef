"""Names, keys, values, hands, kinds and ids, and rows of names."""

from forkrolls.errors import NoHand, NoKey, NoName

MOST_LETTERS = 8
MOST_KEY = 10 ** 9
MOST_VALUE = 10 ** 9
MOST_HAND = 7
MOST_NUMBER = 10 ** 6
KINDS = ("number", "word", "any")


def is_whole(thing, low, high):
    """Whether thing is a whole number, no truth, from low to high."""
    if isinstance(thing, bool) or not isinstance(thing, int):
        return False
    return low <= thing <= high


def is_word(thing):
    """Whether thing is a text of one to eight small letters."""
    if not isinstance(thing, str) or len(thing) > MOST_LETTERS:
        return False
    return thing.isascii() and thing.isalpha() and thing.islower()


def is_name(thing):
    """Whether thing is a name."""
    return is_word(thing) and thing != "key"


def is_key(thing):
    """Whether thing is the key of a row."""
    return is_whole(thing, 0, MOST_KEY)


def is_value(thing):
    """Whether thing is a value of a cell."""
    return is_word(thing) or is_whole(thing, -MOST_VALUE, MOST_VALUE)


def is_hand(thing):
    """Whether thing is a hand."""
    return is_whole(thing, 0, MOST_HAND)


def is_kind(thing):
    """Whether thing is a kind of column."""
    return thing in KINDS


def is_id(thing):
    """Whether thing is the id of a column."""
    if not isinstance(thing, tuple) or len(thing) != 3:
        return False
    hand, name, number = thing
    return is_hand(hand) and is_name(name) and is_whole(number, 0, MOST_NUMBER)


def rises(things):
    """Whether each of the things, alike enough to be compared, is above the one before."""
    return all([low < high for low, high in zip(things, things[1:])])


def are_names(thing):
    """Whether thing is a rising row of names."""
    if not isinstance(thing, tuple):
        return False
    return all([is_name(part) for part in thing]) and rises(thing)


def need_name(thing):
    """Refuse what is no name."""
    if not is_name(thing):
        raise NoName("a name is one to eight small letters, not key")


def need_names(thing):
    """Refuse what is no rising row of names."""
    if not are_names(thing):
        raise NoName("the names of tables are handed in as a rising row")


def need_key(thing):
    """Refuse what is no key."""
    if not is_key(thing):
        raise NoKey("a key is a whole number from 0 to 10 ** 9")


def need_hand(thing):
    """Refuse what is no hand."""
    if not is_hand(thing):
        raise NoHand("a hand is a whole number from 0 to 7")
