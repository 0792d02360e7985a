"""Rounds: names that stand on a ring."""

from unbrokenrows.errors import BadNumber, BadRound
from unbrokenrows.names import first_bad_name
from unbrokenrows.tables import Table, check_different, check_known


class Round:
    """At most 12 different names on a ring, told from one of them on."""

    def __init__(self, names):
        index = first_bad_name(names)
        if index is not None:
            raise BadRound(index)
        if len(names) > Table.MOST_COLUMNS:
            raise BadRound(Table.MOST_COLUMNS)
        self.names = tuple(names)

    def cut(self, name):
        """The other names, from the one after this name all the way round."""
        check_known(self.names, [name])
        at = self.names.index(name)
        return [*self.names[at + 1:], *self.names[:at]]

    def splits(self, p, q, r, s):
        """True if, going round from p, exactly one of r and s comes before q."""
        check_different(self.names, [p, q, r, s])
        behind = self.cut(p)
        ahead = behind[:behind.index(q)]
        return (r in ahead) != (s in ahead)

    def __getitem__(self, at):
        if len(self.names) == 0:
            raise BadNumber(at)
        return self.names[at % len(self.names)]

    def __lshift__(self, other):
        return Round(_moved(self.names, other))

    def __rshift__(self, other):
        return Round(_moved(self.names, -other))

    def __invert__(self):
        return Round([*self.names[:1], *self.names[:0:-1]])

    def __contains__(self, name):
        return name in self.names

    def __len__(self):
        return len(self.names)

    def __iter__(self):
        return iter(self.names)

    def __eq__(self, other):
        return isinstance(other, Round) and self.names in _all_moved(other.names)


def _moved(names, steps):
    """The names from one on that stands so many places later on the ring."""
    if len(names) == 0:
        return names
    at = steps % len(names)
    return (*names[at:], *names[:at])


def _all_moved(names):
    return [_moved(names, steps) for steps in range(len(names) + 1)]
