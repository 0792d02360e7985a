"""Counting and numbering the layouts of a part in ascending order.

All layouts of a part are equally long, and different children have different columns. So two
layouts of a piece in which different children stand first differ in their first column already.
"""

from unbrokenrows.parts import numbers_in


class Counted:
    """A part with the number of its layouts: of all, and of those that begin with each column.

    `told` gives the allowed sequences of each piece, by the set of its columns.
    """

    def __init__(self, part, told):
        self.numbers = numbers_in(part.mask)
        self.children = tuple([Counted(child, told) for child in part.children])
        self.sequences = told[part.mask] if part.children else None
        self.full = (1 << len(self.children)) - 1
        self.each = 1
        for child in self.children:
            self.each = self.each * child.ways
        self.ways = self.each
        self.starts = {number: 1 for number in self.numbers}
        if self.sequences is not None:
            self.ways = self.each * self.sequences.number_of(self.full)
            self.starts = self._starts()

    def _starts(self):
        found = {}
        for number, index in self.heads(self.full):
            child = self.children[index]
            found[number] = child.starts[number] * self.behind(index, self.full, self.each)
        return found

    def heads(self, left):
        """The columns that can come next, each with its child, when these children are left."""
        nexts = self.sequences.nexts(left)
        return sorted([(number, index) for index in nexts for number in self.children[index].starts])

    def behind(self, index, left, each):
        """The number of ways to go on behind a layout of a child that comes next.

        `each` is the product of the numbers of layouts of the children that are left.
        """
        return each // self.children[index].ways * self.sequences.number_of(left - (1 << index))

    def below(self, number):
        """The number of layouts that begin with a lesser column."""
        return sum([self.starts[start] for start in self.starts if start < number])


def nth_layout(node, number):
    """The layout with this number, as a list of numbers of columns."""
    if node.sequences is None:
        return list(node.numbers)
    order = []
    each = node.each
    left = node.full
    while left:
        index, inner, number = _choice(node, left, each, number)
        child = node.children[index]
        order.extend(nth_layout(child, inner))
        each = each // child.ways
        left = left - (1 << index)
    return order


def _choice(node, left, each, number):
    """The child that comes next, the number of its layout, and the number of what is behind it."""
    for start, index in node.heads(left):
        child = node.children[index]
        behind = node.behind(index, left, each)
        many = child.starts[start] * behind
        if number < many:
            inner, rest = divmod(number, behind)
            return index, child.below(start) + inner, rest
        number = number - many


def layout_number(node, order):
    """The number of a layout, given as a list of numbers of columns."""
    found = 0
    each = node.each
    left = node.full
    while left:
        heads = node.heads(left)
        index = [child for start, child in heads if start == order[0]][0]
        child = node.children[index]
        for start, other in heads:
            if other != index and start < order[0]:
                found += node.children[other].starts[start] * node.behind(other, left, each)
        found += layout_number(child, order[:len(child.numbers)]) * node.behind(index, left, each)
        order = order[len(child.numbers):]
        each = each // child.ways
        left = left - (1 << index)
    return found


def first_layout(part, told):
    """The least layout, found without counting."""
    if len(part.children) == 0:
        return numbers_in(part.mask)
    inner = [first_layout(child, told) for child in part.children]
    order = []
    left = (1 << len(inner)) - 1
    while left:
        nexts = told[part.mask].nexts(left)
        index = min([(inner[child][0], child) for child in nexts])[1]
        order.extend(inner[index])
        left = left - (1 << index)
    return order
