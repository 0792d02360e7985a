"""Places of columns in kept layouts, distances of columns, and shares of kept layouts."""

from unbrokenrows.errors import BadWeight
from unbrokenrows.leads import fork
from unbrokenrows.parts import named
from unbrokenrows.shares import Share
from unbrokenrows.standing import near_and_far, pairs_at_places
from unbrokenrows.tables import check_known, two_columns

MOST_WEIGHT = 999


def places(kept, name):
    """All places that a column has in kept layouts."""
    check_known(kept.table.columns, [name])
    return list(pairs_at_places(kept.leads, kept.table.columns.index(name)))


class Far:
    """The least and the greatest distance of two columns, with kept layouts in which they have it."""

    def __init__(self, least, near, most, wide):
        self.least = least
        self.near = near
        self.most = most
        self.wide = wide


def far(kept, a, b, weights=None):
    """How far two columns are apart: the sum of the weights of the columns between them."""
    columns = kept.table.columns
    one, other = two_columns(columns, a, b)
    told = {} if weights is None else weights
    _check_weights(columns, told)
    costs = [told.get(name, 1) for name in columns]
    found = near_and_far(kept.leads, one, other)
    least, near = min([(_distance(order, one, other, costs), order) for order, _ in found])
    most, wide = max([(_distance(order, one, other, costs), order) for _, order in found])
    return Far(least, named(near, columns), most, named(wide, columns))


def _check_weights(columns, weights):
    for name in weights:
        if name not in columns or not 0 <= weights[name] <= MOST_WEIGHT:
            raise BadWeight(name)


def _distance(order, one, other, costs):
    low, high = sorted([order.index(one), order.index(other)])
    return sum([costs[column] for column in order[low + 1:high]])


def share_before(kept, a, b):
    """The share of the kept layouts in which a stands before b."""
    one, other = two_columns(kept.table.columns, a, b)
    return _share(kept.leads, one, other)


def mean_place(kept, name):
    """The mean of the places that a column has in all kept layouts."""
    columns = kept.table.columns
    check_known(columns, [name])
    column = columns.index(name)
    return Share.total([_share(kept.leads, other, column) for other in range(len(columns)) if other != column])


# The sequences of the other pieces are independent of the two columns.
def _share(leads, one, other):
    piece, here, there = fork(leads.part, one, other)
    every = leads.told[piece.mask]
    some = every.plus(here, there)
    if some is None:
        return Share(0)
    return Share(some.number_of(some.everyone()), every.number_of(every.everyone()))
