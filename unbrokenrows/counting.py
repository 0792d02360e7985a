"""Counting and numbering the layouts of a part in ascending order.

All layouts of a part are equally long, and different children have different columns. So two
layouts of a piece in which different children stand first differ in their first column already.
"""

from math import factorial

from unbrokenrows.parts import numbers_in


class Counted:
    """A part with the number of its layouts: of all, and of those that begin with each column."""

    def __init__(self, part):
        self.word = part.word
        self.numbers = numbers_in(part.mask)
        self.children = tuple([Counted(child) for child in part.children])
        self.each = 1
        for child in self.children:
            self.each = self.each * child.ways
        left = tuple(range(len(self.children)))
        self.ways = self.each * self.sequences(len(left))
        self.starts = {number: 1 for number in self.numbers} if self.word == "one" else {}
        for number, index in self.heads(left):
            child = self.children[index]
            self.starts[number] = child.starts[number] * self.behind(child, left, self.each)

    def sequences(self, many):
        """In how many sequences so many children can follow, when the others stand already."""
        if self.word == "firm":
            return 2 if many == len(self.children) else 1
        return factorial(many)

    def heads(self, left):
        """The columns that can come next, each with its child, when these children are left."""
        nexts = _firm_nexts(left, len(self.children)) if self.word == "firm" else left
        return sorted([(number, index) for index in nexts for number in self.children[index].starts])

    def behind(self, child, left, each):
        """The number of ways to go on behind a layout of a child that comes next.

        `each` is the product of the numbers of layouts of the children that are left.
        """
        return each // child.ways * self.sequences(len(left) - 1)

    def below(self, number):
        """The number of layouts that begin with a lesser column."""
        return sum([self.starts[start] for start in self.starts if start < number])


# As soon as one end of a firm piece stands, its direction is fixed.
def _firm_nexts(left, many):
    if len(left) == many:
        return (0, many - 1)
    return left[-1:] if left[0] == 0 else left[:1]


def nth_layout(node, number):
    """The layout with this number, as a list of numbers of columns."""
    if node.word == "one":
        return list(node.numbers)
    order = []
    each = node.each
    left = tuple(range(len(node.children)))
    while left:
        index, inner, number = _choice(node, left, each, number)
        child = node.children[index]
        order.extend(nth_layout(child, inner))
        each = each // child.ways
        left = tuple([other for other in left if other != index])
    return order


def _choice(node, left, each, number):
    """The child that comes next, the number of its layout, and the number of what is behind it."""
    for start, index in node.heads(left):
        child = node.children[index]
        behind = node.behind(child, left, each)
        many = child.starts[start] * behind
        if number < many:
            inner, rest = divmod(number, behind)
            return index, child.below(start) + inner, rest
        number = number - many


def layout_number(node, order):
    """The number of a layout, given as a list of numbers of columns."""
    found = 0
    each = node.each
    left = tuple(range(len(node.children)))
    while left:
        index = [other for other in left if order[0] in node.children[other].numbers][0]
        child = node.children[index]
        for start, other in node.heads(left):
            if other != index and start < order[0]:
                rival = node.children[other]
                found += rival.starts[start] * node.behind(rival, left, each)
        found += layout_number(child, order[:len(child.numbers)]) * node.behind(child, left, each)
        order = order[len(child.numbers):]
        each = each // child.ways
        left = tuple([other for other in left if other != index])
    return found
