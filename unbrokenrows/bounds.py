"""Bounds between years: which years keep all of them, and which of them cannot be kept together.

A bound `(start, end, length, mark)` says that the year of the end is at least that of the start plus
the length. A mark is None, or a pair of a word and what the bound comes from.
"""


class Longest:
    """The greatest sums of lengths of bounds, one behind the other, from a start to each end.

    `sums` has None for what is not reached. If the bounds cannot all be kept, `ring` has some that
    lead back to where they begin and have together a length above 0, each end only once; otherwise
    it is None.
    """

    def __init__(self, many, bounds, start):
        self.sums = [None] * many
        self.sums[start] = 0
        self._last = [None] * many
        changed = start
        turn = 0
        while changed is not None and turn < many:
            changed = self._improve(bounds)
            turn += 1
        self.ring = None if changed is None else self._ring_behind(changed, many)

    def bounds_to(self, end):
        """The bounds on a longest way from the start, if there is no ring."""
        found = []
        while self._last[end] is not None:
            found.append(self._last[end])
            end = self._last[end][0]
        return found[::-1]

    def _improve(self, bounds):
        """Take each bound into account once. Returns an end that is reached better, or None."""
        changed = None
        for bound in bounds:
            start, end, length, _ = bound
            if self.sums[start] is not None:
                better = self.sums[start] + length
                if self.sums[end] is None or self.sums[end] < better:
                    self.sums[end] = better
                    self._last[end] = bound
                    changed = end
        return changed

    # What still gets better behind so many turns has a ring before it.
    def _ring_behind(self, end, many):
        for _ in range(many):
            end = self._last[end][0]
        found = [self._last[end]]
        while found[-1][0] != end:
            found.append(self._last[found[-1][0]])
        return found


def marked(bounds, word):
    """What the bounds with this word come from, ascending, as a tuple."""
    return tuple(sorted([bound[3][1] for bound in bounds if bound[3] is not None and bound[3][0] == word]))
