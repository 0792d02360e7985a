"""Told spans: how many years the rows of a table last."""

from unbrokenrows.bounds import Longest, marked
from unbrokenrows.breaking import broken_layout
from unbrokenrows.errors import BadNumber, BadSpan, BadYears, BrokenSpan, NoDating, NotLayout, NotSure
from unbrokenrows.orders import check_order, is_layout
from unbrokenrows.parts import mask_of, named, part_of
from unbrokenrows.tables import check_known
from unbrokenrows.trees import Tree

MOST_SPANS = 24
MOST_YEARS = 1000000


class Spans:
    """A table with told spans: the number of a row, the least and the greatest time of it, or None."""

    def __init__(self, table, told):
        if len(told) > MOST_SPANS:
            raise BadSpan(MOST_SPANS)
        for index, (number, least, most) in enumerate(told):
            if not (_has_time(table, number) and _are_times(least, most)):
                raise BadSpan(index)
        self.table = table
        self.told = tuple([tuple(span) for span in told])


def _has_time(table, number):
    return 0 <= number < len(table) and len(table[number]) > 0


def _are_times(least, most):
    return 0 <= least <= MOST_YEARS and (most is None or least <= most <= MOST_YEARS)


def ends_of(order, names):
    """The least and the greatest place of some columns."""
    found = [order.index(name) for name in names]
    return min(found), max(found)


def time_of(order, years, names):
    """The time of a set of columns in a dated order."""
    low, high = ends_of(order, names)
    return years[high] - years[low]


def check_years(spans, order, years):
    """Raise an error unless the years are a dating of the layout that keeps the spans."""
    _check_layout(spans.table, order)
    for index in range(max(len(order), len(years))):
        if index >= min(len(order), len(years)) or years[index] < years[max(index - 1, 0)]:
            raise BadYears(index)
    for index, (number, least, most) in enumerate(spans.told):
        time = time_of(order, years, spans.table[number])
        if time < least or (most is not None and time > most):
            raise BrokenSpan(index)


def _check_layout(table, order):
    check_order(table, order)
    if not is_layout(table, order):
        raise NotLayout("the order is not a layout of the table")


def span_bounds(spans, order):
    """The bounds between the places of a layout: years do not decrease, and spans are kept."""
    bounds = [(place - 1, place, 0, None) for place in range(1, len(order))]
    for index, (number, least, most) in enumerate(spans.told):
        low, high = ends_of(order, spans.table[number])
        bounds.append((low, high, least, ("less", index)))
        if most is not None:
            bounds.append((high, low, -most, ("more", index)))
    return bounds


def less_and_more(bounds):
    """The numbers of the spans whose least and whose greatest time is among the bounds."""
    return marked(bounds, "less"), marked(bounds, "more")


def earliest(spans, order):
    """The earliest dating of a layout that keeps the spans."""
    _check_layout(spans.table, order)
    return first_years(order, span_bounds(spans, order))


def first_years(order, bounds):
    """The least years from 0 on that keep all bounds. Raises NoDating."""
    if len(order) == 0:
        return []
    longest = Longest(len(order), bounds, 0)
    if longest.ring is not None:
        less, more = less_and_more(longest.ring)
        raise NoDating(less, more)
    return longest.sums


class Lasting:
    """The least and the greatest time of a sure set, and why there is no lesser and no greater one."""

    def __init__(self, order, shortest, longest, gap):
        self.order = order
        self.least, self.short, self.floor = shortest
        self.most, self.long, self.roof = longest
        self.gap = gap


def lasting(spans, names):
    """The least and the greatest time that a sure set has in all dated layouts that keep the spans."""
    check_known(spans.table.columns, names)
    if len(names) == 0:
        raise BadNumber(0)
    tree = Tree.of(spans.table)
    _check_sure(tree, names)
    order = tree.first()
    bounds = span_bounds(spans, order)
    first_years(order, bounds)
    low, high = ends_of(order, names)
    longest = longest_time(order, bounds, low, high)
    gap = _gap_of(order, bounds, low, high) if longest[0] is None else None
    return Lasting(order, shortest_time(order, bounds, low, high), longest, gap)


def _check_sure(tree, names):
    if not tree.is_sure(names):
        order = broken_layout(part_of(tree.form, tree.columns), mask_of(names, tree.columns))
        raise NotSure(named(order, tree.columns))


def shortest_time(order, bounds, low, high):
    """The least time from a place to a later one, years with it, and the spans that need so much."""
    longest = Longest(len(order), bounds, low)
    time = longest.sums[high]
    years = first_years(order, [*bounds, (high, low, -time, None)])
    return time, years, less_and_more(longest.bounds_to(high))


def longest_time(order, bounds, low, high):
    """The greatest time from a place to a later one, likewise; three times None if there is none."""
    longest = Longest(len(order), bounds, high)
    if longest.sums[low] is None:
        return None, None, None
    time = -longest.sums[low]
    years = first_years(order, [*bounds, (low, high, time, None)])
    return time, years, less_and_more(longest.bounds_to(low))


def _gap_of(order, bounds, low, high):
    """Two neighbours from a place to a later one that lie in no row with a greatest time."""
    for place in range(low, high):
        if not any([end <= place < start for start, end, _, _ in bounds]):
            return order[place], order[place + 1]
