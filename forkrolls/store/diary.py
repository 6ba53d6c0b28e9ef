"""Diaries: rows done one behind another, with a log of what was begun and what was ended."""


class Diary:
    """What was begun and ended, and whether rows are being done."""

    def __init__(self):
        self._pages = []
        self._now = False

    def through(self, rows, action):
        """What the action tells of each of the rows, done up to the first that is refused."""
        self._now = True
        try:
            return tuple([self._step(row, action) for row in rows])
        finally:
            self._now = False

    def _step(self, row, action):
        kept = copied(row)
        self._pages.append(("in", kept))
        try:
            return action(row)
        finally:
            self._pages.append(("out", kept))

    def log(self):
        """("in", row) and ("out", row) of each that was begun, one behind another."""
        return copied(tuple(self._pages))

    def busy(self):
        """Whether rows are being done."""
        return self._now


def copied(thing):
    """The thing with lists and dicts of its own, so that nobody who changes his own changes this."""
    if isinstance(thing, tuple):
        return tuple([copied(part) for part in thing])
    if isinstance(thing, list):
        return [copied(part) for part in thing]
    if isinstance(thing, dict):
        return {key: copied(part) for key, part in thing.items()}
    return thing
