"""Small texts: numbers, values, ids, branches, deeds' names; written, and read back.

What reads a text tells a list: of the one thing that it says, or of none. What
it says may still be out of bounds: who asks for it looks at that.
"""

from forkrolls.errors import NoText

MOST_SIGNS = 4000
MANY_FIGURES = 18
CHUNK = 10 ** 18


def need_text(thing):
    """Refuse what is no text of so few signs that it is read."""
    if not isinstance(thing, str) or len(thing) > MOST_SIGNS:
        raise NoText("a text has at most 4000 signs")


def figures(number):
    """A whole number in figures, however great."""
    if number < 0:
        return "-" + figures(-number)
    chunks = []
    # Python itself doesn't write a number of more than some thousands of figures.
    while number >= CHUNK:
        number, low = divmod(number, CHUNK)
        chunks.append(str(low).zfill(MANY_FIGURES))
    chunks.append(str(number))
    return "".join(reversed(chunks))


def number_in(text):
    """The number that a text of figures says."""
    body = text.removeprefix("-")
    if not body.isascii() or not body.isdigit():
        return []
    if body.startswith("0") and text != "0":
        return []
    return [int(text)]


def part_text(part):
    """A number in figures, a text as it is, an id by its parts, - for None."""
    if part is None:
        return "-"
    if isinstance(part, tuple):
        return dotted_text(part)
    if isinstance(part, str):
        return part
    return figures(part)


def value_in(text):
    """The number or the word that a text says."""
    return number_in(text) or [text]


def dotted_text(parts):
    """An id, or a branch or a mark."""
    return ".".join([part_text(part) for part in parts])


def dotted_in(text):
    """The id, or the branch or mark, that a text says."""
    parts = text.split(".")
    hand = number_in(parts[0])
    if len(hand) == 0 or len(parts) not in (2, 3):
        return []
    if len(parts) == 2:
        return [(hand[0], parts[1])]
    return [(hand[0], parts[1], number) for number in number_in(parts[2])]


def deed_name_text(name):
    """A deed's name."""
    return name[0] + "/" + dotted_text(name[1:])


def deed_name_in(text):
    """The deed's name that a text says."""
    table, _, rest = text.partition("/")
    return [(table, *ident) for ident in dotted_in(rest)]


def all_in(kinds, texts):
    """What the texts say, each of its kind; none at all where there are other many, or one says nothing."""
    if len(kinds) != len(texts):
        return []
    found = []
    for kind, text in zip(kinds, texts):
        said = _said(kind, text)
        if len(said) == 0:
            return []
        found.extend(said)
    return found


def _said(kind, text):
    if kind == "number":
        return number_in(text)
    if kind == "dotted":
        return dotted_in(text)
    if kind == "deedname":
        return deed_name_in(text)
    if kind == "maybe" and text == "-":
        return [None]
    if kind == "maybe" or kind == "value":
        return value_in(text)
    return [text]
