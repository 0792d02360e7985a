"""The errors of the package. Each one has its arguments as attributes, in the same order."""


def _listed(value):
    """A copy as a list, so that an error does not change with the list that it was passed."""
    return list(value) if isinstance(value, (list, tuple)) else value


def _tupled(value):
    """A copy as nested tuples, for the same reason."""
    return tuple([_tupled(part) for part in value]) if isinstance(value, (list, tuple)) else value


class RowsError(ValueError):
    """The base class of all errors of the package."""


class Unknown(RowsError):
    """A name or a number that nothing has."""


class Impossible(RowsError):
    """What was asked for does not exist."""


class UnknownColumn(Unknown):
    def __init__(self, name):
        super().__init__(f"there is no column {name}")
        self.name = name


class UnknownGuest(Unknown):
    def __init__(self, name):
        super().__init__(f"there is no guest {name}")
        self.name = name


class UnknownRow(Unknown):
    def __init__(self, number):
        super().__init__(f"there is no row {number}")
        self.number = number


class NoLayout(Impossible):
    def __init__(self, number):
        super().__init__(f"the rows up to row {number} have no layout")
        self.number = number


class NoRing(Impossible):
    def __init__(self, number):
        super().__init__(f"the rows up to row {number} have no ring layout")
        self.number = number


class NoCommon(Impossible):
    """Two trees have no layout in common."""


class Clash(Impossible):
    def __init__(self, kind, blocks, pairs):
        super().__init__(f"the told pairs clash: {kind} of {blocks} with {pairs}")
        self.kind = kind
        self.blocks = _tupled(blocks)
        self.pairs = _tupled(pairs)


class NotSure(Impossible):
    def __init__(self, order):
        super().__init__(f"the set is broken in {order}")
        self.order = _listed(order)


class NotBefore(Impossible):
    def __init__(self, order):
        super().__init__(f"the columns stand the other way in {order}")
        self.order = _listed(order)


class NoDating(Impossible):
    def __init__(self, less, more):
        super().__init__(f"no dating keeps the spans {less} and {more}")
        self.less = _tupled(less)
        self.more = _tupled(more)


class NoDates(Impossible):
    def __init__(self, one, other):
        super().__init__(f"{one} stands before {other}, but its window is later")
        self.one = one
        self.other = other


class NoStays(Impossible):
    def __init__(self, kind, guests, ways):
        super().__init__(f"no stays have these meetings: {kind} of {guests} by {ways}")
        self.kind = kind
        self.guests = _tupled(guests)
        self.ways = _tupled(ways)


class NoMend(Impossible):
    def __init__(self, cases):
        super().__init__("more rows would have to be taken out")
        self.cases = _tupled(cases)


class NoAgreement(Impossible):
    def __init__(self, table, sets, pairs, sources):
        super().__init__(f"the shared columns have no common order: {sets}, {pairs} from {sources}")
        self.table = table
        self.sets = _tupled(sets)
        self.pairs = _tupled(pairs)
        self.sources = _tupled(sources)


class NoWorld(Impossible):
    def __init__(self, word):
        super().__init__(f"there is no world: {word}")
        self.word = word


class Hindered(Impossible):
    def __init__(self, word):
        super().__init__(f"there would be no world: {word}")
        self.word = word


class BadShare(RowsError):
    """A denominator is 0."""


class BadForm(RowsError):
    """Something is not a form of the columns."""


class NotLayout(RowsError):
    """An order is not a layout."""


class OtherColumns(RowsError):
    """Two objects do not have the same columns in the same order."""


class BadTable(RowsError):
    def __init__(self, part, index):
        super().__init__(f"wrong in a table: {part} {index}")
        self.part = part
        self.index = index


class BadMeetings(RowsError):
    def __init__(self, part, index):
        super().__init__(f"wrong in meetings: {part} {index}")
        self.part = part
        self.index = index


class BadOrder(RowsError):
    def __init__(self, index):
        super().__init__(f"wrong in an order: place {index}")
        self.index = index


class BadStep(RowsError):
    def __init__(self, index):
        super().__init__(f"step {index} is not allowed")
        self.index = index


class BadPair(RowsError):
    def __init__(self, index):
        super().__init__(f"pair {index} is wrong")
        self.index = index


class BadQuestion(RowsError):
    def __init__(self, index):
        super().__init__(f"wrong in a question: argument {index}")
        self.index = index


class BadSpan(RowsError):
    def __init__(self, index):
        super().__init__(f"span {index} is wrong")
        self.index = index


class BadYears(RowsError):
    def __init__(self, index):
        super().__init__(f"wrong in a dating: place {index}")
        self.index = index


class BrokenSpan(RowsError):
    def __init__(self, index):
        super().__init__(f"span {index} is not kept")
        self.index = index


class BadWindow(RowsError):
    def __init__(self, index):
        super().__init__(f"window {index} is wrong")
        self.index = index


class BadRound(RowsError):
    def __init__(self, index):
        super().__init__(f"wrong on a ring: name {index}")
        self.index = index


class BadWorths(RowsError):
    def __init__(self, index):
        super().__init__(f"worth {index} is wrong")
        self.index = index


class BadText(RowsError):
    def __init__(self, line):
        super().__init__(f"line {line} is wrong")
        self.line = line


class BadNumber(RowsError):
    def __init__(self, number):
        super().__init__(f"number out of range: {number}")
        self.number = number


class InUse(RowsError):
    def __init__(self, number):
        super().__init__(f"fact {number} names the column")
        self.number = number


class RunStopped(RowsError):
    def __init__(self, number):
        super().__init__(f"line {number} raised an error")
        self.number = number


class TooMany(RowsError):
    def __init__(self, many):
        super().__init__(f"too many: {many}")
        self.many = many


class BadKind(RowsError):
    def __init__(self, kind, size):
        super().__init__(f"no standard table has kind {kind} and size {size}")
        self.kind = kind
        self.size = size


class SameColumn(RowsError):
    def __init__(self, name):
        super().__init__(f"the column {name} stands twice")
        self.name = name


class BadWeight(RowsError):
    def __init__(self, name):
        super().__init__(f"the weight of {name} is wrong")
        self.name = name


class Taken(RowsError):
    def __init__(self, name):
        super().__init__(f"{name} is taken")
        self.name = name


class BadSharing(RowsError):
    def __init__(self, one, other):
        super().__init__(f"the objects {one} and {other} share other columns")
        self.one = one
        self.other = other


class BadLine(RowsError):
    def __init__(self, place):
        super().__init__(f"word {place} does not fit")
        self.place = place
