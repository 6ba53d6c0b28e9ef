"""Sides: which of two lots touched a place beyond what both have, and what is read of both together."""

from forkrolls.merges.changes import touched_within
from forkrolls.readings.lasts import readings_of
from forkrolls.webs.lots import in_each, need_lot, put_together
from forkrolls.webs.webs import need_web


def sides(web, one, other):
    """Rising (place, which of the two touched it, the reading in both together)."""
    need_web(web)
    need_lot(web, one)
    need_lot(web, other)
    shared = in_each((one, other))
    ones = touched_within(web, one, shared)
    others = touched_within(web, other, shared)
    read = readings_of(web, put_together((one, other)))
    places = list(ones) + [place for place in others if place not in ones]
    rows = [(place, _side_of(place in ones, place in others), read.get(place, ())) for place in sorted(places)]
    return tuple(rows)


def _side_of(in_one, in_other):
    if in_one and in_other:
        return "both"
    if in_one:
        return "one"
    return "other"
