"""What the texts of points [35] and [36] say, once more, as plainly as can be; None where they say nothing."""

import re

from tests import plain, plain_asks


def number(text, low=-(10 ** 4000), high=10 ** 4000):
    if re.fullmatch("0|-?[1-9][0-9]*", text) and low <= int(text) <= high:
        return int(text)
    return None


def value(text):
    thing = number(text, -(10 ** 9), 10 ** 9)
    return thing if thing is not None else text if plain.text(text) else None


def ident(text):
    found = re.fullmatch(r"([0-7])\.([a-z]+)\.([0-9]+)", text)
    if not found or number(found[3], 0, 10 ** 6) is None or not plain.name(found[2]):
        return None
    return (int(found[1]), found[2], int(found[3]))


def at(text):
    found = re.fullmatch(r"([0-7])\.([a-z]+)", text)
    return (int(found[1]), found[2]) if found and plain.name(found[2]) else None


def deed_name(text):
    found = re.fullmatch("([a-z]+)/([^/]+)", text)
    if not found or not plain.name(found[1]) or ident(found[2]) is None:
        return None
    return (found[1], *ident(found[2]))


def name(text):
    return text if plain.name(text) else None


def key(text):
    return number(text, 0, 10 ** 9)


def parts(words, *readers):
    """What the words say, or None."""
    if len(words) != len(readers):
        return None
    found = [reader(word) for reader, word in zip(readers, words)]
    return None if None in found else tuple(found)


def of_forms(text, forms):
    word, *words = text.split(" ")
    found = parts(words, *forms[word]) if word in forms else None
    return None if found is None else (word, *found)


def place(text):
    if type(text) is not str or len(text) > 4000:
        return None
    return of_forms(text, {
        "table": (name,), "column": (name, ident), "name": (name, ident), "slot": (name, name), "kind": (name, ident),
        "else": (name, ident), "row": (name, key), "cell": (name, key, ident)})


def deed(text):
    if type(text) is not str or len(text) > 4000:
        return None
    words = text.split(" ")
    if words[0] == "undo":
        found = deed_name(words[1]) if len(words) == 2 else None
        return None if found is None else ("undo", *found)
    if words[0] == "put":
        return put(words)
    # None is a value here, so another word stands for it on the way.
    bare = words[:-1] + ["nothing" if words[-1] == "-" and words[0] in ("column", "else") else words[-1]]
    if "nothing" in words:
        bare = words
    found = of_forms(" ".join(bare), {
        "table": (name,), "column": (name, name, name, value), "call": (name, ident, name), "kind": (name, ident, name),
        "else": (name, ident, value), "blank": (name, key, ident), "drop": (name, key), "leave": (name, ident),
        "end": (name,)})
    if found is not None and bare != words:
        found = (*found[:-1], None)
    return found if plain_asks.deed(found) else None


def put(words):
    if len(words) < 4 or name(words[1]) is None or key(words[2]) is None:
        return None
    cells = [] if words[3:] == ["-"] else [word.split("=") for word in words[3:]]
    cells = tuple(parts(cell, ident, value) for cell in cells)
    thing = ("put", words[1], int(words[2]), cells)
    return thing if plain_asks.deed(thing) else None


def question(text):
    if type(text) is not str or len(text) > 4000:
        return None
    thing = question_in(text)
    return thing if plain_asks.question(thing) else None


def question_in(text):
    if not (text.startswith("(") and text.endswith(")")):
        return None
    word, *words = split_at_blanks(text[1:-1])
    forms = {"roll": (name,), "where": (question_in, plain_word, plain_word, value),
             "same": (question_in, plain_word, plain_word), "keep": (question_in, qnames),
             "call": (question_in, plain_word, plain_word), "join": (question_in, question_in),
             "either": (question_in, question_in), "but": (question_in, question_in),
             "count": (question_in, qnames, plain_word), "sum": (question_in, qnames, plain_word, plain_word)}
    found = parts(words, *forms[word]) if word in forms else None
    return None if found is None else (word, *found)


def plain_word(text):
    return text if plain.text(text) else None


def qnames(text):
    return () if text == "-" else tuple(text.split(","))


def split_at_blanks(text):
    """The text at its blanks that stand in no bracket."""
    found, deep = [""], 0
    for sign in text:
        deep += (sign == "(") - (sign == ")")
        if sign == " " and deep == 0:
            found.append("")
        else:
            found[-1] += sign
    return found


def row(text):
    if type(text) is not str or len(text) > 4000:
        return None
    if text == "()":
        return ()
    pairs = tuple(parts(pair.split("="), plain_word, part) for pair in text.split(","))
    return pairs if plain_asks.row(pairs) else None


def part(text):
    thing = number(text)
    return thing if thing is not None else plain_word(text)


def hand(text):
    return number(text, 0, 7)


def level(text):
    return number(text)


def desk(text):
    """The word of a desk's row and what stands behind it."""
    if type(text) is not str or len(text) > 4000:
        return None
    word, *words = text.split(" ")
    late = {"do": (2, deed), "read": (2, place), "ask": (2, question)}
    if word in late:
        many, reader = late[word]
        words = words[:many] + [" ".join(words[many:])]
    forms = {"fork": (hand, name, at), "mark": (hand, name, at), "merge": (hand, name, at), "strict": (hand, name, at),
             "grant": (hand, name, hand, level), "share": (hand, at, hand), "unshare": (hand, at, hand),
             "drop": (hand, at), "prune": (hand,), "do": (hand, name, deed), "pick": (hand, name, at, deed_name),
             "names": (hand,), "tables": (hand,), "read": (hand, at, place), "ask": (hand, at, question)}
    found = parts(words, *forms[word]) if word in forms else None
    return None if found is None else (word, *found)
