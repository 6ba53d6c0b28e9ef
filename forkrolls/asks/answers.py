"""Answers: the rows that a question tells on a state.

Each row goes with its SOURCES: what it was made of, as the rolls name it, one
for each roll that had a part in it. Whence asks for them; an answer has none.
"""

from forkrolls.asks.questions import PAIRED, need_question, tables_within
from forkrolls.cells.rolls import rows_within
from forkrolls.cells.states import cells_of, need_state
from forkrolls.errors import TooWide

MOST_ROWS = 400


def answer(state, question):
    """By text, the unlike rows that the question tells on the state."""
    need_state(state)
    need_question(question)
    return by_text(answer_on(cells_of(state), question))


def by_text(rows):
    """The rows in the order of what repr tells of them."""
    return tuple(sorted(rows, key=lambda row: repr(row)))


def answer_on(cells, question):
    """The rows, as keys, that the question tells of what stands by its place."""
    rolls = {table: {row: () for _, row in roll_of(cells, table)} for table in tables_within(question)}
    return told_by(rolls, question)


def roll_of(cells, table):
    """Each row of a table with its key."""
    return [(key, tuple(sorted(pairs + (("key", key),)))) for key, pairs in rows_within(cells, table)]


def told_by(rolls, question):
    """By each row that the question tells on the rolls its sources."""
    word = question[0]
    if word == "roll":
        found = rolls[question[1]]
    elif word in PAIRED:
        found = _of_two(word, told_by(rolls, question[1]), told_by(rolls, question[2]))
    else:
        found = _of_one(question, told_by(rolls, question[1]))
    _need_few(found)
    return found


def _need_few(found):
    if len(found) > MOST_ROWS:
        raise TooWide("a question has more than 400 rows")


def _of_one(question, rows):
    word = question[0]
    if word == "where":
        return {row: rows[row] for row in rows if _is_so(_part_at(row, question[2]), question[3], question[4])}
    if word == "same":
        return {row: rows[row] for row in rows if _are_alike(row, question[2], question[3])}
    if word == "keep":
        return _turned([(_cut(row, question[2]), sources) for row, sources in rows.items()])
    if word == "call":
        return _turned([(_renamed(row, question[2], question[3]), sources) for row, sources in rows.items()])
    if word == "count":
        sums = _sums([(_cut(row, question[2]), 1) for row in rows])
    else:
        sums = _sums([(_cut(row, question[2]), _number_at(row, question[3])) for row in rows])
    # Of these two the last part is what the sum is called.
    return {_with_pair(row, question[-1], many): () for row, many in sums.items()}


def _of_two(word, rows, others):
    if word == "join":
        return _joined(rows, others)
    if word == "either":
        return _turned(list(rows.items()) + list(others.items()))
    return {row: () for row in rows if row not in others}


def _turned(pairs):
    """Unlike rows, each with the first sources that it goes with."""
    found = {}
    for row, sources in pairs:
        found.setdefault(row, sources)
    return found


def _part_at(row, qname):
    """What the row has there, or None."""
    for name, part in row:
        if name == qname:
            return part
    return None


def _number_at(row, qname):
    part = _part_at(row, qname)
    if isinstance(part, int):
        return part
    return 0


def _is_so(part, sign, value):
    if part is None:
        return False
    if sign == "is":
        return part == value
    if sign == "not":
        return part != value
    if isinstance(part, str) or isinstance(value, str):
        return False
    if sign == "below":
        return part < value
    return part > value


def _are_alike(row, qname, other):
    part = _part_at(row, qname)
    return part is not None and part == _part_at(row, other)


def _cut(row, qnames):
    return tuple([(name, part) for name, part in row if name in qnames])


def _renamed(row, qname, new):
    part = _part_at(row, qname)
    if part is None or _part_at(row, new) is not None:
        return row
    return _with_pair([pair for pair in row if pair[0] != qname], new, part)


def _with_pair(row, qname, part):
    return tuple(sorted([*row, (qname, part)]))


def _sums(pairs):
    """By each row the sum of the numbers that go with it."""
    sums = {}
    for row, number in pairs:
        sums[row] = sums.get(row, 0) + number
    return sums


def _joined(rows, others):
    """The pairs of both, of each two rows that are alike wherever both have a qname."""
    named, having = _who_has(others)
    listed = list(others)
    found = {}
    for row, sources in rows.items():
        for at in _bits_in(_alike_to(row, named, having, len(listed))):
            other = listed[at]
            found.setdefault(_put_together(row, other), sources + others[other])
        _need_few(found)
    return found


def _who_has(rows):
    """By each qname a number that has the bits of the rows with it; by each pair likewise."""
    named = {}
    having = {}
    for at, row in enumerate(rows):
        for pair in row:
            named[pair[0]] = named.get(pair[0], 0) | (1 << at)
            having[pair] = having.get(pair, 0) | (1 << at)
    return named, having


def _alike_to(row, named, having, many):
    """The bits, of so many, of the rows that have each pair of the row, or not its qname."""
    everyone = (1 << many) - 1
    alike = everyone
    for pair in row:
        alike &= (everyone - named.get(pair[0], 0)) | having.get(pair, 0)
    return alike


def _bits_in(number):
    """Which bits a number has, from the lowest up."""
    found = []
    while number > 0:
        lowest = number & -number
        found.append(lowest.bit_length() - 1)
        number -= lowest
    return found


def _put_together(row, other):
    return tuple(sorted({pair for pair in [*row, *other]}))
