"""Forms: nested tuples that describe orders of columns, and their texts."""

from unbrokenrows.errors import BadText
from unbrokenrows.names import is_name

MOST_NAMES = 12
LEAST_PARTS = {"loose": 2, "firm": 3}
OPENERS = {"(": "loose", "[": "firm"}
CLOSERS = {")": "loose", "]": "firm"}


def form_text(form):
    """The text of a form."""
    if isinstance(form, str):
        return form
    inside = " ".join([form_text(part) for part in form[1:]])
    if form[:1] == ("firm",):
        return f"[{inside}]"
    return f"({inside})"


# Without recursion, since what is passed may be nested deeper than any form with 12 columns.
def is_form(form, columns):
    """True if this is a form in which exactly these columns occur."""
    names = []
    waiting = [] if form == () else [form]
    while waiting:
        part = waiting.pop()
        if isinstance(part, str):
            names.append(part)
        elif _is_piece(part):
            waiting.extend(part[1:])
        else:
            return False
    return sorted(names) == sorted(columns)


def _is_piece(part):
    if len(part) == 0 or not isinstance(part[0], str):
        return False
    return part[0] in LEAST_PARTS and len(part) > LEAST_PARTS[part[0]]


def read_form(text):
    """The form that has this text."""
    if text == "()":
        return ()
    reader = FormReader()
    for word in text.split(" "):
        reader.take(word)
    return reader.result()


class FormReader:
    """Takes the words of a text one by one.

    The pieces that are not yet closed are kept in a list, so that no text is nested too deep.
    """

    def __init__(self):
        self._names = {}
        self._pieces = [[]]

    def take(self, word):
        """Take a word: brackets that open, a name, brackets that close."""
        opened = word.lstrip("([")
        name = opened.rstrip(")]")
        for sign in word[:len(word) - len(opened)]:
            self._pieces.append([OPENERS[sign]])
        self._add_name(name)
        for sign in opened[len(name):]:
            self._close(sign)

    def result(self):
        """The form, if all pieces are closed and nothing stands beside it."""
        if len(self._pieces) != 1 or len(self._pieces[0]) != 1:
            raise BadText(0)
        return self._pieces[0][0]

    def _add_name(self, name):
        if not is_name(name) or name in self._names or len(self._names) == MOST_NAMES:
            raise BadText(0)
        self._names[name] = True
        self._pieces[-1].append(name)

    def _close(self, sign):
        piece = tuple(self._pieces.pop())
        kind = CLOSERS[sign]
        if len(self._pieces) == 0 or piece[0] != kind or len(piece) <= LEAST_PARTS[kind]:
            raise BadText(0)
        self._pieces[-1].append(piece)
