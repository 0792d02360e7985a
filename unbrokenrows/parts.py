"""Parts: forms with the numbers of the columns in the place of their names, always normal.

A set of columns is a mask here: a number in which bit k says whether column k belongs to it.
"""


class Part:
    """A column (its word is "one" and it has no children) or a piece ("loose" or "firm").

    Without any columns it is a loose piece without children.
    """

    def __init__(self, word, mask, children):
        self.word = word
        self.mask = mask
        self.children = children


def column_part(number):
    """The part that is one column."""
    return Part("one", 1 << number, ())


def first_bit(part):
    """The first column of a part, as a mask."""
    return part.mask & -part.mask


def loose_part(children):
    """These parts in any sequence. A single one stands for itself."""
    if len(children) == 1:
        return children[0]
    by_first = {first_bit(child): child for child in children}
    ordered = tuple([by_first[bit] for bit in sorted(by_first)])
    return Part("loose", sum([child.mask for child in children]), ordered)


def firm_part(children):
    """These parts in this sequence or in the reversed one. For two parts this means any sequence."""
    if len(children) < 3:
        return loose_part(children)
    if first_bit(children[0]) > first_bit(children[-1]):
        children = children[::-1]
    return Part("firm", sum([child.mask for child in children]), tuple(children))


def all_loose(many):
    """The part of all orders of so many columns."""
    return loose_part([column_part(number) for number in range(many)])


def same_kind(part, children):
    """A piece of the same kind as a given one, with other children."""
    return firm_part(children) if part.word == "firm" else loose_part(children)


def part_of(form, columns):
    """The part that has the same layouts as a form, normal or not."""
    if isinstance(form, str):
        return column_part(columns.index(form))
    children = [part_of(child, columns) for child in form[1:]]
    return firm_part(children) if form[:1] == ("firm",) else loose_part(children)


def form_of(part, columns):
    """The normal form of a part."""
    if part.word == "one":
        return columns[part.mask.bit_length() - 1]
    if len(part.children) == 0:
        return ()
    return tuple([part.word] + [form_of(child, columns) for child in part.children])


def numbers_in(mask):
    """The numbers of the columns of a set."""
    return [number for number in range(mask.bit_length()) if mask >> number & 1]


def names_in(mask, columns):
    """The set of columns as a tuple of names."""
    return tuple([columns[number] for number in numbers_in(mask)])


def named(numbers, columns):
    """The list of the names of these columns."""
    return [columns[number] for number in numbers]


def mask_of(names, columns):
    """The set of the columns with these names. Other names, and names twice, do not matter."""
    return sum([1 << number for number, name in enumerate(columns) if name in names])


def at_most_one(mask):
    """True for the empty set and for a single column."""
    return mask & (mask - 1) == 0


def pieces_of(part):
    """The pieces of a part, each one ahead of those inside it."""
    if len(part.children) == 0:
        return []
    found = [part]
    for child in part.children:
        found.extend(pieces_of(child))
    return found


def stretches_of(part):
    """The unions of two or more consecutive children of a piece."""
    masks = [child.mask for child in part.children]
    ends = range(len(masks) + 1)
    return [sum(masks[low:high]) for low in ends for high in ends if high - low > 1]


def sure_masks(part):
    """The sure sets with at least two columns."""
    found = []
    for piece in pieces_of(part):
        found.extend(stretches_of(piece) if piece.word == "firm" else [piece.mask])
    return found


def is_sure_mask(part, row):
    """True if the set is unbroken in every layout of the part."""
    return at_most_one(row) or row in sure_masks(part)


def telling_masks(part):
    """Sets that together have exactly the layouts of the part."""
    found = []
    for piece in pieces_of(part):
        masks = [child.mask for child in piece.children]
        if piece.word == "firm":
            found.extend([masks[at] + masks[at + 1] for at in range(len(masks) - 1)])
        elif piece.mask != part.mask:
            found.append(piece.mask)
    return found


def trimmed(part, mask):
    """The part that is left of a part if all columns outside a set are left out."""
    if part.mask & mask == 0:
        return loose_part([])
    if part.word == "one":
        return part
    return same_kind(part, [trimmed(child, mask) for child in part.children if child.mask & mask])
