"""Texts of questions: brackets within one another."""

from forkrolls.asks.questions import MOST_WITHIN
from forkrolls.words.signs import all_in, part_text

# What stands behind the word of a question.
FORMS = {
    "roll": ("word",), "where": ("question", "word", "word", "value"), "same": ("question", "word", "word"),
    "keep": ("question", "qnames"), "call": ("question", "word", "word"), "join": ("question", "question"),
    "either": ("question", "question"), "but": ("question", "question"), "count": ("question", "qnames", "word"),
    "sum": ("question", "qnames", "word", "word")}


def asked_text(question):
    """The text of what is surely a question."""
    word = question[0]
    parts = [_part_text(kind, part) for kind, part in zip(FORMS[word], question[1:])]
    return "(" + " ".join([word] + parts) + ")"


def _part_text(kind, part):
    if kind == "question":
        return asked_text(part)
    if kind == "qnames":
        return ",".join(part) or "-"
    return part_text(part)


def asked_in(text):
    """The question that a text seems to say, or none; brackets that are more within one another aren't looked into."""
    if _is_deep(text):
        return []
    said = _nested(text)
    if len(said) != 1:
        return []
    return _question_in(said[0])


def _is_deep(text):
    """Whether more brackets are within one another than questions may be."""
    deep = 0
    for sign in text:
        if sign == "(":
            deep += 1
        elif sign == ")":
            deep -= 1
        if deep > MOST_WITHIN:
            return True
    return False


def _nested(text):
    """The words, brackets as rows of theirs; none at all where a bracket has no other one."""
    heaps = [[]]
    for word in text.replace("(", " ( ").replace(")", " ) ").split():
        if word == "(":
            heaps.append([])
        elif word == ")":
            closed = tuple(heaps.pop())
            if len(heaps) == 0:
                return []
            heaps[-1].append(closed)
        else:
            heaps[-1].append(word)
    if len(heaps) != 1:
        return []
    return heaps[0]


def _question_in(row):
    """The question that a row of words and rows seems to say, or none."""
    if not isinstance(row, tuple) or len(row) == 0 or not isinstance(row[0], str):
        return []
    kinds = FORMS.get(row[0], ())
    if len(kinds) != len(row) - 1:
        return []
    found = [row[0]]
    for kind, part in zip(kinds, row[1:]):
        said = _part_in(kind, part)
        if len(said) == 0:
            return []
        found.extend(said)
    return [tuple(found)]


def _part_in(kind, part):
    if kind == "question":
        return _question_in(part)
    if not isinstance(part, str):
        return []
    if kind != "qnames":
        return all_in((kind,), (part,))
    if part == "-":
        return [()]
    return [tuple(part.split(","))]
