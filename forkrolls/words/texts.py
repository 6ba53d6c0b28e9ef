"""Texts of places, deeds, deeds' names, questions and rows; written, and read back."""

from forkrolls.asks.questions import is_question, is_row, need_question, need_row
from forkrolls.cells.places import is_place, need_place
from forkrolls.deeds.forms import is_deed, need_deed
from forkrolls.errors import NoName, NoText
from forkrolls.webs.webs import is_deed_name
from forkrolls.words.asked import asked_in, asked_text
from forkrolls.words.signs import all_in, deed_name_in, deed_name_text, need_text, part_text, value_in

# What stands behind the word of a place, and of a deed, but of put and undo.
PLACES = {
    "table": ("word",), "column": ("word", "dotted"), "name": ("word", "dotted"), "slot": ("word", "word"),
    "kind": ("word", "dotted"), "else": ("word", "dotted"), "row": ("word", "number"),
    "cell": ("word", "number", "dotted")}
DEEDS = {
    "table": ("word",), "column": ("word", "word", "word", "maybe"), "call": ("word", "dotted", "word"),
    "kind": ("word", "dotted", "word"), "else": ("word", "dotted", "maybe"), "blank": ("word", "number", "dotted"),
    "drop": ("word", "number"), "leave": ("word", "dotted"), "end": ("word",)}


def place_text(place):
    """The text of a place."""
    need_place(place)
    return _joined(place)


def _joined(parts):
    return " ".join([part_text(part) for part in parts])


def read_place(text):
    """The place that a text says."""
    need_text(text)
    words = text.split(" ")
    said = all_in(PLACES.get(words[0], ()), words[1:])
    place = (words[0], *said)
    if not is_place(place):
        raise NoText("the text says no place")
    return place


def deed_text(deed):
    """The text of a deed asked for."""
    need_deed(deed)
    if deed[0] == "undo":
        return "undo " + deed_name_text(deed[1:])
    if deed[0] == "put":
        return _joined(deed[:3]) + " " + _cells_text(deed[3])
    return _joined(deed)


def _cells_text(cells):
    if len(cells) == 0:
        return "-"
    return " ".join([part_text(ident) + "=" + part_text(value) for ident, value in cells])


def read_deed(text):
    """The deed asked for that a text says."""
    need_text(text)
    words = text.split(" ")
    if words[0] == "put" and len(words) > 3:
        said = all_in(("word", "number"), words[1:3]) + _cells_in(words[3:])
    elif words[0] == "undo" and len(words) == 2:
        said = [part for name in deed_name_in(words[1]) for part in name]
    else:
        said = all_in(DEEDS.get(words[0], ()), words[1:])
    deed = (words[0], *said)
    if not is_deed(deed):
        raise NoText("the text says no deed")
    return deed


def _cells_in(words):
    if words == ["-"]:
        return [()]
    found = []
    for word in words:
        ident, _, value = word.partition("=")
        pair = all_in(("dotted", "value"), (ident, value))
        if len(pair) == 0:
            return []
        found.append(tuple(pair))
    return [tuple(found)]


def name_text(name):
    """The text of a deed's name."""
    if not is_deed_name(name):
        raise NoName("a deed's name is a table, a hand, a branch and a number")
    return deed_name_text(name)


def read_name(text):
    """The deed's name that a text says."""
    need_text(text)
    said = deed_name_in(text)
    if len(said) == 0 or not is_deed_name(said[0]):
        raise NoText("the text says no deed's name")
    return said[0]


def question_text(question):
    """The text of a question."""
    need_question(question)
    return asked_text(question)


def read_question(text):
    """The question that a text says."""
    need_text(text)
    said = asked_in(text)
    # Blanks are read as they come: what is written otherwise isn't so written.
    if len(said) == 0 or not is_question(said[0]) or asked_text(said[0]) != text:
        raise NoText("the text says no question")
    return said[0]


def row_text(row):
    """The text of a row such as questions tell."""
    need_row(row)
    if len(row) == 0:
        return "()"
    return ",".join([qname + "=" + part_text(part) for qname, part in row])


def read_row(text):
    """The row that a text says."""
    need_text(text)
    if text == "()":
        return ()
    pairs = [pair.partition("=") for pair in text.split(",")]
    row = tuple([(qname, value) for qname, _, said in pairs for value in value_in(said)])
    if not is_row(row):
        raise NoText("the text says no row")
    return row
