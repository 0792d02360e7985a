"""Worlds: kept layouts with years that keep told spans and told windows."""

from unbrokenrows.bounds import Longest, marked
from unbrokenrows.counting import nth_layout
from unbrokenrows.errors import Clash, NoDating, NoLayout, TooMany
from unbrokenrows.keeping import check_pairs, kept_leads
from unbrokenrows.parts import named
from unbrokenrows.patterns import find_pattern
from unbrokenrows.spans import Spans, earliest, less_and_more, span_bounds
from unbrokenrows.trees import Tree
from unbrokenrows.windows import Windows

MOST_LAYOUTS = 24


class Verdict:
    """Whether there is a world: one of five words, and a world or what shows that there is none."""

    def __init__(self, word, pattern=None, clash=None, lists=None, layout=None, years=None, rings=None):
        self.word = word
        self.pattern = pattern
        self.clash = clash
        self.lists = lists
        self.layout = layout
        self.years = years
        self.rings = rings


def verdict(table, pairs=(), spans=(), windows=()):
    """Decide whether there is a world."""
    check_pairs(table, pairs)
    told_spans = Spans(table, spans)
    told_windows = Windows(table, windows)
    try:
        tree = Tree.of(table)
    except NoLayout:
        return Verdict("pattern", pattern=find_pattern(table))
    try:
        leads = kept_leads(tree, [*pairs, *told_windows.forced()])
    except Clash as error:
        return Verdict("clash", clash=(error.kind, error.blocks, error.pairs))
    layout = named(leads.first(), table.columns)
    try:
        years = earliest(told_spans, layout)
    except NoDating as found:
        return Verdict("years", lists=(found.less, found.more))
    if len(told_windows.told) == 0:
        return Verdict("world", layout=layout, years=years)
    if len(told_spans.told) == 0:
        return Verdict("world", layout=layout, years=told_windows.dates(layout))
    return _verdict_on_each(leads.counted(), told_spans, told_windows)


def _verdict_on_each(counted, spans, windows):
    """The verdict on spans and windows together, the kept layouts being tried one by one."""
    if counted.ways > MOST_LAYOUTS:
        raise TooMany(counted.ways)
    rings = []
    for number in range(counted.ways):
        layout = named(nth_layout(counted, number), spans.table.columns)
        years, ring = _dated(layout, spans, windows)
        if ring is None:
            return Verdict("world", layout=layout, years=years)
        rings.append(ring)
    return Verdict("each", rings=rings)


# Windows are bounds from and to one more place, which has the year 0.
def _dated(layout, spans, windows):
    """Years that keep spans and windows, and None, or None and a ring that shows that there are none."""
    zero = len(layout)
    bounds = span_bounds(spans, layout)
    for name, low, high in windows.told:
        place = layout.index(name)
        bounds.append((zero, place, low, ("low", name)))
        bounds.append((place, zero, -high, ("high", name)))
    longest = Longest(zero + 1, bounds, 0)
    if longest.ring is not None:
        less, more = less_and_more(longest.ring)
        return None, (less, more, marked(longest.ring, "low")[0], marked(longest.ring, "high")[0])
    # The first place gets its greatest year, and each other place its least one then.
    bounds.append((zero, 0, -longest.sums[zero], None))
    return Longest(zero + 1, bounds, zero).sums[:zero], None
