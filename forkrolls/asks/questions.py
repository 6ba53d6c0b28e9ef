"""Questions, and the rows that they tell."""

from forkrolls.cells.names import is_name, is_value, is_word, rises
from forkrolls.errors import NoQuestion, NoRow

MOST_WITHIN = 8
MOST_QUESTIONS = 40
MOST_QNAMES = 6
PAIRED = ("join", "either", "but")
SIGNS = ("is", "not", "below", "above")


def is_question(thing):
    """Whether thing is a question."""
    return 0 < _many_in(thing, MOST_WITHIN) <= MOST_QUESTIONS


def _many_in(thing, within):
    """How many questions thing is, with those within it, so many within one another; 0 where it is none.

    Looked at no deeper than that, a thing nested ever so deep does no harm.
    """
    if within == 0 or not isinstance(thing, tuple) or len(thing) < 2 or not _is_formed(thing):
        return 0
    many = [_many_in(part, within - 1) for part in questions_in(thing)]
    if 0 in many:
        return 0
    return 1 + sum(many)


def questions_in(question):
    """The questions straight within a question."""
    word = question[0]
    if word == "roll":
        return ()
    if word in PAIRED:
        return question[1:3]
    return question[1:2]


def _is_formed(thing):
    """Whether all is as it should be but for the questions within."""
    word = thing[0]
    rest = thing[2:]
    if word == "roll":
        return rest == () and is_name(thing[1])
    if word in PAIRED:
        return len(rest) == 1
    if len(rest) == 1:
        return word == "keep" and _are_qnames(rest[0])
    if len(rest) == 2:
        return _is_of_two(word, rest[0], rest[1])
    return len(rest) == 3 and _is_of_three(word, rest[0], rest[1], rest[2])


def _is_of_two(word, one, two):
    if word == "count":
        return _are_qnames(one) and is_word(two) and two not in one
    if not is_word(one) or not is_word(two):
        return False
    return word == "same" or (word == "call" and one != two)


def _is_of_three(word, one, two, three):
    if word == "where":
        return is_word(one) and two in SIGNS and is_value(three)
    return word == "sum" and _are_qnames(one) and is_word(two) and is_word(three) and three not in one


def _are_qnames(thing):
    """Whether thing is none to six rising qnames: words, key too."""
    if not isinstance(thing, tuple) or len(thing) > MOST_QNAMES:
        return False
    return all([is_word(part) for part in thing]) and rises(thing)


def is_row(thing):
    """Whether thing is a row such as questions tell."""
    if not isinstance(thing, tuple) or not all([_is_pair(part) for part in thing]):
        return False
    return rises([qname for qname, _ in thing])


def _is_pair(thing):
    if not isinstance(thing, tuple) or len(thing) != 2 or not is_word(thing[0]):
        return False
    part = thing[1]
    return is_word(part) or (isinstance(part, int) and not isinstance(part, bool))


def tables_in(question):
    """Rising, the tables that a question asks of."""
    need_question(question)
    return tuple(tables_within(question))


def tables_within(question):
    """Rising, the tables that what is surely a question asks of."""
    return sorted({part[1] for part in parts_of(question) if part[0] == "roll"})


def parts_of(question):
    """The question and all those within it."""
    found = [question]
    for part in questions_in(question):
        found.extend(parts_of(part))
    return found


def need_question(thing):
    """Refuse what is no question."""
    if not is_question(thing):
        raise NoQuestion("a question is one of ten words and what the word asks for, not too many within")


def need_row(thing):
    """Refuse what is no row such as questions tell."""
    if not is_row(thing):
        raise NoRow("a row is rising pairs of a qname and a number or a word")
