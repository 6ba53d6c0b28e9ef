"""Desks: a store that is asked and answers in texts."""

from forkrolls.cells.names import is_hand, is_name
from forkrolls.errors import NoText
from forkrolls.store.diary import Diary
from forkrolls.store.store import Store, is_at
from forkrolls.words.signs import all_in, dotted_text, need_text, part_text
from forkrolls.words.texts import name_text, read_deed, read_name, read_place, read_question, row_text

# What stands behind each word; the last three kinds are all the rest of a row.
FORMS = {
    "fork": ("hand", "name", "at"), "mark": ("hand", "name", "at"), "merge": ("hand", "name", "at"),
    "strict": ("hand", "name", "at"), "grant": ("hand", "name", "hand", "number"), "share": ("hand", "at", "hand"),
    "unshare": ("hand", "at", "hand"), "drop": ("hand", "at"), "prune": ("hand",), "do": ("hand", "name", "deed"),
    "pick": ("hand", "name", "at", "deedname"), "names": ("hand",), "tables": ("hand",),
    "read": ("hand", "at", "place"), "ask": ("hand", "at", "question")}
RESTS = ("deed", "place", "question")
# How each of the small kinds is written.
KINDS = {"hand": "number", "name": "word", "at": "dotted", "number": "number"}


class Desk:
    """A store that is spoken to."""

    def __init__(self):
        self._store = Store()
        self._diary = Diary()

    def say(self, row):
        """The answer to a row."""
        need_text(row)
        word, *parts = parts_in(row)
        store = self._store
        if word == "names":
            return spaced([dotted_text(name[:2]) for name in store.names(*parts)])
        if word == "tables":
            return spaced(store.tables(*parts))
        if word == "read":
            return spaced([value_text(value) for value in store.reading(*parts)])
        if word == "ask":
            return " / ".join([spaced([row_text(told) for told in rows]) for rows in store.ask(*parts)])
        told = store.act((word, *parts))
        if word == "do" or word == "pick":
            return name_text(told)
        return "ok"

    def many(self, rows):
        """The answers to rows, up to the first that is refused."""
        if not isinstance(rows, tuple):
            raise NoText("many rows are a row of texts")
        return self._diary.through(rows, self.say)

    def log(self):
        """("in", row) and ("out", row) of each of many rows that was begun."""
        return self._diary.log()

    def busy(self):
        """Whether many rows are being answered."""
        return self._diary.busy()


def spaced(texts):
    """The texts with blanks between, or - of none."""
    return " ".join(texts) or "-"


def value_text(value):
    """A value that is read of a place."""
    if value is True:
        return "+"
    if value is None:
        return "."
    return part_text(value)


def parts_in(row):
    """The word of a row and what the words behind it say; refused where it is none of the rows."""
    words = row.split(" ")
    kinds = FORMS.get(words[0], ())
    if len(kinds) > 0 and kinds[-1] in RESTS:
        words = words[:len(kinds)] + [" ".join(words[len(kinds):])]
    if len(kinds) == 0 or len(kinds) != len(words) - 1:
        raise NoText("a row is a word and what the word asks for")
    return [words[0]] + [_part_in(kind, word) for kind, word in zip(kinds, words[1:])]


def _part_in(kind, text):
    if kind == "deed":
        return read_deed(text)
    if kind == "place":
        return read_place(text)
    if kind == "question":
        return read_question(text)
    if kind == "deedname":
        return read_name(text)
    return _small_part_in(kind, text)


def _small_part_in(kind, text):
    said = all_in((KINDS[kind],), (text,))
    if len(said) == 0 or not _is_of_kind(kind, said[0]):
        raise NoText("a hand, a name, a branch or a mark, or a number isn't so written")
    return said[0]


def _is_of_kind(kind, thing):
    if kind == "hand":
        return is_hand(thing)
    if kind == "name":
        return is_name(thing)
    return kind == "number" or is_at(thing)
