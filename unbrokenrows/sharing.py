"""Several tables: a common order of the columns that all of them have."""

from unbrokenrows.errors import BadNumber, BadSharing, Clash, NoAgreement, NoLayout
from unbrokenrows.keeping import Kept, numbered
from unbrokenrows.parts import named
from unbrokenrows.tables import Table

MOST_KEPTS = 4


class Agreement:
    """The shared columns in a common order, and a kept layout of each object with this order."""

    def __init__(self, shared, laid):
        self.shared = shared
        self.laid = laid


def agree(kepts):
    """Kept layouts, one of each object, in which the shared columns stand in the same order."""
    if not 1 <= len(kepts) <= MOST_KEPTS:
        raise BadNumber(len(kepts))
    _check_sharing(kepts)
    columns = _common(kepts[0], kepts[-1])
    sets = [(at, names) for at, kept in enumerate(kepts) for names in _telling_sets(kept.tree, columns)]
    table = Table(columns, [_those_in(columns, names) for _, names in sets])
    sources = _sources(kepts, columns)
    # What the objects say of the shared columns is all told by these rows and pairs, since
    # the children of different pieces stand in sequences that are independent of each other.
    try:
        shared = Kept(table, list(sources)).first()
    except (NoLayout, Clash):
        raise NoAgreement(table, sets, list(sources), list(sources.values())) from None
    return Agreement(shared, [_laid(kept, shared) for kept in kepts])


def _common(one, other):
    """The columns that two objects have in common, in the order of the first one."""
    return _those_in(other.table.columns, one.table.columns)


def _those_in(columns, names):
    return [name for name in names if name in columns]


def _check_sharing(kepts):
    for one, kept in enumerate(kepts):
        for other in range(one + 1, len(kepts)):
            if sorted(_common(kept, kepts[other])) != sorted(_common(kepts[0], kepts[1])):
                raise BadSharing(one, other)


def _telling_sets(tree, columns):
    """Sure sets of a tree that tell, by those of their columns that are shared, how these can stand."""
    sets = tree.sure_sets()
    shared = [_those_in(columns, names) for names in sets]
    return [sets[shared.index(list(row))] for row in tree.only(columns).telling_rows()]


def _sources(kepts, columns):
    """The sure pairs of shared columns, each with the number of the first object that has it."""
    found = {}
    for at, kept in enumerate(kepts):
        for pair in kept.sure_pairs():
            if pair[0] in columns and pair[1] in columns:
                found.setdefault(pair, at)
    return found


def _laid(kept, shared):
    """A kept layout of an object in which the shared columns stand in this order."""
    columns = kept.table.columns
    neighbours = [(shared[at - 1], shared[at]) for at in range(1, len(shared))]
    return named(kept.leads.plus(numbered(columns, neighbours)).first(), columns)
