"""Where a column can stand in the layouts of leads, and how far two columns can be apart.

Columns are numbers here. A way to stand is told by further pairs that leads can take.
"""

from unbrokenrows.leads import child_with, fork
from unbrokenrows.parts import numbers_in, pieces_of


def pairs_at_places(leads, column):
    """For each place that a column can have, pairs with which it has this place in every layout."""
    heads = {0: 0}
    part = leads.part
    while len(part.children) > 0:
        index = child_with(part, column)
        sets = [_columns_of(part, children) for children in leads.told[part.mask].ahead_of(index)]
        heads = _joined(heads, {len(numbers_in(mask)): mask for mask in sets})
        part = part.children[index]
    others = [other for other in numbers_in(leads.part.mask) if other != column]
    return {place: _pairs_around(column, others, heads[place]) for place in sorted(heads)}


def _columns_of(piece, children):
    return sum([piece.children[index].mask for index in numbers_in(children)])


def _joined(heads, further):
    """Sets of columns by their sizes, each the union of one from both."""
    return {many + more: heads[many] + further[more] for many in heads for more in further}


def _pairs_around(column, others, head):
    return [(other, column) if head >> other & 1 else (column, other) for other in others]


def near_and_far(leads, one, other):
    """Layouts among which are some with the least and some with the greatest distance of two columns.

    A list of pairs: in the first layout few columns stand between the two, in the second many.
    """
    found = []
    for low, high in ((one, other), (other, one)):
        told = leads.plus([(low, high)])
        if told is not None:
            found.extend([_near_and_far_one_way(way, low, high) for way in _directed(told, low, high)])
    return found


def _directed(leads, low, high):
    """The leads with one direction for each firm piece that has only one of the two columns."""
    ends = 1 << low | 1 << high
    ways = [leads]
    for piece in pieces_of(leads.part):
        if piece.word == "firm" and piece.mask & ends not in (0, ends):
            one = numbers_in(piece.children[0].mask)[0]
            other = numbers_in(piece.children[-1].mask)[0]
            turned = [way.plus([pair]) for way in ways for pair in ((one, other), (other, one))]
            ways = [way for way in turned if way is not None]
    return ways


# With all directions told, what can stand between the two columns in some layout can do so in one
# layout all together, and what can stand outside can do so all together as well.
def _near_and_far_one_way(leads, low, high):
    piece, _, _ = fork(leads.part, low, high)
    near = []
    far = []
    for column in [number for number in numbers_in(piece.mask) if number not in (low, high)]:
        behind_low = leads.is_before(low, column)
        before_high = leads.is_before(column, high)
        if not behind_low:
            near.append((column, low))
        elif not before_high:
            near.append((high, column))
        if not leads.is_before(column, low) and not leads.is_before(high, column):
            far.extend([(low, column), (column, high)])
    return leads.plus(near).first(), leads.plus(far).first()
