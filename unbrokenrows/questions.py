"""Questions about orders, and their answers about kept layouts."""

from unbrokenrows.errors import BadQuestion, BadText, UnknownColumn
from unbrokenrows.leads import missing_layout
from unbrokenrows.names import first_bad_name
from unbrokenrows.parts import named
from unbrokenrows.standing import pairs_at_places
from unbrokenrows.tables import Table, check_known


class Answer:
    """Whether something holds: in which layout it does, and in which it does not, or None."""

    def __init__(self, yes, no):
        self.word = "open"
        if no is None:
            self.word = "always"
        elif yes is None:
            self.word = "never"
        self.yes = yes
        self.no = no


class Question:
    """What holds or does not hold in an order. The classes under it say what it is."""

    def __init__(self, names):
        self.names = tuple(names)

    def holds(self, order):
        """True if the question holds in this order."""
        raise NotImplementedError("each kind of question says this itself")

    def __call__(self, kept):
        raise NotImplementedError("each kind of question says this itself")

    def __invert__(self):
        return Opposite(self)

    def __str__(self):
        return str(" ".join(self.names))

    def __eq__(self, other):
        return isinstance(other, Question) and str(self) == str(other)


class Before(Question):
    """a stands before b."""

    def __init__(self, a, b):
        _check_names([a, b])
        super().__init__([a, b])

    def holds(self, order):
        """True if the question holds in this order."""
        one, other = _places_in(order, self.names)
        return one < other

    def __call__(self, kept):
        one, other = _numbers_in_table(kept, self.names)
        return Answer(_some_layout(kept, [[(one, other)]]), _some_layout(kept, [[(other, one)]]))

    def __invert__(self):
        return Opposite(self)

    def __str__(self):
        return f"before {self.names[0]} {self.names[1]}"

    def __eq__(self, other):
        return isinstance(other, Question) and str(self) == str(other)


class Between(Question):
    """b stands somewhere between a and c."""

    def __init__(self, a, b, c):
        _check_names([a, b, c])
        super().__init__([a, b, c])

    def holds(self, order):
        """True if the question holds in this order."""
        one, middle, other = _places_in(order, self.names)
        return one < middle < other or other < middle < one

    def __call__(self, kept):
        one, middle, other = _numbers_in_table(kept, self.names)
        inside = [[(one, middle), (middle, other)], [(other, middle), (middle, one)]]
        outside = [[(middle, one), (middle, other)], [(one, middle), (other, middle)]]
        return Answer(_some_layout(kept, inside), _some_layout(kept, outside))

    def __invert__(self):
        return Opposite(self)

    def __str__(self):
        return f"between {self.names[0]} {self.names[1]} {self.names[2]}"

    def __eq__(self, other):
        return isinstance(other, Question) and str(self) == str(other)


class Beside(Question):
    """a and b are neighbours."""

    def __init__(self, a, b):
        _check_names([a, b])
        super().__init__([a, b])

    def holds(self, order):
        """True if the question holds in this order."""
        one, other = _places_in(order, self.names)
        return abs(one - other) == 1

    def __call__(self, kept):
        one, other = _numbers_in_table(kept, self.names)
        beside = kept.leads.unbroken(1 << one | 1 << other)
        yes = None if beside is None else beside.first()
        no = missing_layout(kept.leads, beside)
        return Answer(_named_or_none(kept, yes), _named_or_none(kept, no))

    def __invert__(self):
        return Opposite(self)

    def __str__(self):
        return f"beside {self.names[0]} {self.names[1]}"

    def __eq__(self, other):
        return isinstance(other, Question) and str(self) == str(other)


class AtPlace(Question):
    """a stands at this place."""

    def __init__(self, a, place):
        _check_names([a])
        if not 0 <= place < Table.MOST_COLUMNS:
            raise BadQuestion(1)
        super().__init__([a])
        self.place = place

    def holds(self, order):
        """True if the question holds in this order."""
        return _places_in(order, self.names) == [self.place]

    def __call__(self, kept):
        column = _numbers_in_table(kept, self.names)[0]
        told = pairs_at_places(kept.leads, column)
        here = [told[place] for place in told if place == self.place]
        elsewhere = [told[place] for place in told if place != self.place]
        return Answer(_some_layout(kept, here), _some_layout(kept, elsewhere))

    def __invert__(self):
        return Opposite(self)

    def __str__(self):
        return f"place {self.names[0]} {self.place}"

    def __eq__(self, other):
        return isinstance(other, Question) and str(self) == str(other)


class Opposite(Question):
    """A question of another class does not hold."""

    def __init__(self, question):
        super().__init__(question.names)
        self.question = question

    def holds(self, order):
        """True if the question holds in this order."""
        return not self.question.holds(order)

    def __call__(self, kept):
        answer = self.question(kept)
        return Answer(answer.no, answer.yes)

    def __invert__(self):
        return self.question

    def __str__(self):
        return f"not {self.question}"

    def __eq__(self, other):
        return isinstance(other, Question) and str(self) == str(other)


def _check_names(names):
    index = first_bad_name(names)
    if index is not None:
        raise BadQuestion(index)


def _places_in(order, names):
    for name in names:
        if name not in order:
            raise UnknownColumn(name)
    return [order.index(name) for name in names]


def _numbers_in_table(kept, names):
    check_known(kept.table.columns, names)
    return [kept.table.columns.index(name) for name in names]


def _some_layout(kept, ways):
    """A kept layout that keeps all pairs of one of these lists too, None if there is none."""
    for pairs in ways:
        leads = kept.leads.plus(pairs)
        if leads is not None:
            return named(leads.first(), kept.table.columns)
    return None


def _named_or_none(kept, order):
    return None if order is None else named(order, kept.table.columns)


def read_question(text):
    """The question with this text."""
    word, _, rest = text.partition(" ")
    question = _plain_question(rest) if word == "not" else _plain_question(text)
    return Opposite(question) if word == "not" else question


def _plain_question(text):
    word, *told = text.split(" ")
    try:
        if word == "before" and len(told) == 2:
            return Before(told[0], told[1])
        if word == "between" and len(told) == 3:
            return Between(told[0], told[1], told[2])
        if word == "beside" and len(told) == 2:
            return Beside(told[0], told[1])
        if word == "place" and len(told) == 2:
            return AtPlace(told[0], _place_of(told[1]))
    except BadQuestion:
        raise BadText(0) from None
    raise BadText(0)


def _place_of(word):
    texts = [str(place) for place in range(Table.MOST_COLUMNS)]
    return texts.index(word) if word in texts else Table.MOST_COLUMNS
