"""The allowed sequences of the children of a piece.

The children are numbered from 0, and a set of children is a mask, as a set of columns is.
"""

from math import factorial

from unbrokenrows.parts import numbers_in


class Sequences:
    """The sequences in which each child stands behind those that must stand before it.

    `before[k]` has all children that stand before child k in every allowed sequence. So a firm
    piece without a told direction has empty sets there, and two sequences all the same.
    """

    def __init__(self, word, before):
        self.word = word
        self.before = before
        self._known = {0: 1}

    def everyone(self):
        """The set of all children."""
        return (1 << len(self.before)) - 1

    def is_before(self, one, other):
        """True if a child stands before another one in every allowed sequence."""
        return self.before[other] >> one & 1 == 1

    def plus(self, one, other):
        """Those sequences in which a child stands before another one, None if there are none."""
        if self.is_before(other, one):
            return None
        if self.is_before(one, other):
            return self
        if self.word == "firm":
            return Sequences(self.word, _one_way(len(self.before), one < other))
        ahead = self.before[one] | 1 << one
        behind = self.behind(other) | 1 << other
        return Sequences(self.word, tuple([mask | ahead if behind >> child & 1 else mask
                                           for child, mask in enumerate(self.before)]))

    def behind(self, child):
        """The set of the children that stand behind a child in every allowed sequence."""
        return sum([1 << other for other, mask in enumerate(self.before) if mask >> child & 1])

    def nexts(self, left):
        """The children that can come next when these are left."""
        numbers = numbers_in(left)
        if not self._has_two_ways():
            return [child for child in numbers if self.before[child] & left == 0]
        if left == self.everyone():
            return [numbers[0], numbers[-1]]
        # As soon as one end of a firm piece stands, its direction is fixed.
        return numbers[-1:] if numbers[0] == 0 else numbers[:1]

    def number_of(self, left):
        """The number of sequences of the children that are left, when the others stand already."""
        if left not in self._known:
            self._known[left] = self._count(left)
        return self._known[left]

    def ahead_of(self, child):
        """The sets of children that can stand before a child, the others standing behind it."""
        if self._has_two_ways():
            return [(1 << child) - 1, self.everyone() - (2 << child) + 1]
        found = {self.before[child]: True}
        waiting = [self.before[child]]
        movable = numbers_in(self.everyone() - (1 << child) - self.behind(child))
        while waiting:
            head = waiting.pop()
            for other in movable:
                longer = head | 1 << other
                if longer not in found and self.before[other] & head == self.before[other]:
                    found[longer] = True
                    waiting.append(longer)
        return list(found)

    def _has_two_ways(self):
        return self.word == "firm" and self.before[0] == 0 and self.before[-1] == 0

    def _count(self, left):
        nexts = self.nexts(left)
        if self.word == "firm":
            return len(nexts)
        # What can come next at once is not held up later: without told pairs all sequences are allowed.
        if len(nexts) == len(numbers_in(left)):
            return factorial(len(nexts))
        return sum([self.number_of(left - (1 << child)) for child in nexts])


def _one_way(many, forward):
    """What stands before each child if a firm piece has only one direction."""
    if forward:
        return tuple([(1 << child) - 1 for child in range(many)])
    return tuple([(1 << many) - (2 << child) for child in range(many)])


def free_sequences(piece):
    """All sequences of a piece without told pairs."""
    return Sequences(piece.word, (0,) * len(piece.children))
