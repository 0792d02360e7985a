"""The years between two columns in kept layouts whose datings keep told spans."""

from unbrokenrows.parts import named
from unbrokenrows.spans import Spans, earliest, ends_of, longest_time, shortest_time, span_bounds
from unbrokenrows.standing import near_and_far
from unbrokenrows.tables import two_columns


class Apart:
    """The least and the greatest number of years between two columns, with dated layouts that have it."""

    def __init__(self, least, near, most, wide):
        self.least = least
        self.near = near
        self.most = most
        self.wide = wide


def apart(kept, told, a, b):
    """The least and the greatest number of years between two columns; None if there is no greatest."""
    spans = Spans(kept.table, told)
    columns = kept.table.columns
    one, other = two_columns(columns, a, b)
    earliest(spans, kept.first())
    orders = near_and_far(kept.leads, one, other)
    least, near = min([_shortest(spans, named(numbers, columns), [a, b]) for numbers, _ in orders])
    found = [_longest(spans, named(numbers, columns), [a, b]) for _, numbers in orders]
    if any([time is None for time, _ in found]):
        return Apart(least, near, None, None)
    most, wide = max(found)
    return Apart(least, near, most, wide)


def _shortest(spans, order, names):
    low, high = ends_of(order, names)
    time, years, _ = shortest_time(order, span_bounds(spans, order), low, high)
    return time, (order, years)


def _longest(spans, order, names):
    low, high = ends_of(order, names)
    time, years, _ = longest_time(order, span_bounds(spans, order), low, high)
    return time, (order, years)
