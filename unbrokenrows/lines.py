"""The lines of a desk: which words they have, what must hold for them, and what they change.

A shape says what stands behind the first words of a line; "columns" stands for one or more columns.
"""

from unbrokenrows.errors import BadLine, BadNumber, BadText, InUse, Taken, TooMany
from unbrokenrows.facts import windows_of
from unbrokenrows.names import is_name
from unbrokenrows.questions import read_question
from unbrokenrows.tables import Table, check_different

MOST_DIGITS = 7
MOST_YEAR = 1000000
FACTS = {
    "row": ("columns",),
    "near": ("column", "column"),
    "end": ("column",),
    "first": ("column",),
    "last": ("column",),
    "before": ("column", "column"),
    "over": ("column", "column"),
    "span": ("least", "most", "columns"),
    "window": ("column", "low", "high"),
}
CHANGES = {
    "column": ("name",),
    "remove": ("column",),
    "rename": ("column", "name"),
    "drop": ("number",),
}
ASKED = {
    "verdict": (),
    "layout": (),
    "years": (),
    "count": (),
    "ring": (),
    "places": ("column",),
    "far": ("column", "column"),
    "share": ("column", "column"),
    "mean": ("column",),
    "sure": ("columns",),
    "time": ("columns",),
}
QUESTIONS = {
    "before": ("column", "column"),
    "between": ("column", "column", "column"),
    "beside": ("column", "column"),
    "place": ("column", "place"),
}


def is_fact(words):
    """True if a line with these words can only be a fact."""
    return words[0] in FACTS


def is_asked(words):
    """True if a line with these words can only be a question."""
    return words[0] == "ask"


def check_line(columns, facts, words, most):
    """Raise the error of a line that cannot be done with these columns and facts, `most` at most."""
    kinds = _kinds_of(words)
    check_different(columns, [word for word, kind in zip(words, kinds) if kind == "column"])
    _check_numbers(facts, words, kinds)
    _check_taken(columns, facts, words)
    if words[0] == "remove":
        _check_use(facts, words[1])
    if is_fact(words) and len(facts) >= most:
        raise TooMany(most)
    if words[0] == "column" and len(columns) >= Table.MOST_COLUMNS:
        raise TooMany(Table.MOST_COLUMNS)


def _kinds_of(words):
    """What each word is: a fixed word, or what stands in the place of one. Raises BadLine."""
    if is_asked(words):
        return _kinds_asked(words)
    if is_fact(words):
        return _kinds_behind(words, 1, FACTS[words[0]])
    if words[0] in CHANGES:
        return _kinds_behind(words, 1, CHANGES[words[0]])
    raise BadLine(0)


def _kinds_asked(words):
    word = words[1] if len(words) > 1 else ""
    if word in ASKED:
        return _kinds_behind(words, 2, ASKED[word])
    try:
        read_question(" ".join(words[1:]))
    except BadText:
        raise BadLine(1) from None
    fixed = 3 if word == "not" else 2
    return _kinds_behind(words, fixed, QUESTIONS[words[fixed - 1]])


def _kinds_behind(words, fixed, shape):
    """The kinds of all words, when there is a shape for those behind so many fixed ones."""
    kinds = ["word"] * fixed + list(shape)
    if kinds[-1] == "columns":
        kinds = kinds[:-1] + ["column"] * max(1, len(words) - len(kinds) + 1)
    for place, (word, kind) in enumerate(zip(words, kinds)):
        if not _fits(word, kind):
            raise BadLine(place)
    if len(words) != len(kinds):
        raise BadLine(min(len(words), len(kinds)))
    return kinds


def _fits(word, kind):
    if kind in ("column", "name"):
        return is_name(word)
    if kind in ("low", "high"):
        return _is_number(word) or (word[:1] == "-" and word != "-0" and _is_number(word[1:]))
    if kind == "most":
        return word == "-" or _is_number(word)
    return kind in ("word", "place") or _is_number(word)


def _is_number(word):
    if not 1 <= len(word) <= MOST_DIGITS or (word[0] == "0" and word != "0"):
        return False
    return all(["0" <= sign <= "9" for sign in word])


def _check_numbers(facts, words, kinds):
    for at, kind in enumerate(kinds):
        if kind in ("number", "least", "most", "low", "high") and words[at] != "-":
            value = int(words[at])
            least, most = _range_of(facts, words[at - 1], kind)
            if not least <= value <= most:
                raise BadNumber(value)


def _range_of(facts, word_before, kind):
    """From which to which number one of this kind can be."""
    if kind == "number":
        return 0, len(facts) - 1
    if kind in ("most", "high"):
        return int(word_before), MOST_YEAR
    return (-MOST_YEAR if kind == "low" else 0), MOST_YEAR


def _check_taken(columns, facts, words):
    if words[0] in ("column", "rename") and words[-1] in columns:
        raise Taken(words[-1])
    if words[0] == "window" and words[1] in [name for name, _, _ in windows_of(facts)]:
        raise Taken(words[1])


def _check_use(facts, name):
    for number, fact in enumerate(facts):
        if name in fact.split(" ")[1:]:
            raise InUse(number)


def after_line(columns, facts, words):
    """The columns and the facts behind a line that is no question and that can be done."""
    if words[0] == "column":
        return (*columns, words[1]), facts
    if words[0] == "remove":
        return tuple([name for name in columns if name != words[1]]), facts
    if words[0] == "rename":
        told = [_renamed(fact.split(" "), words[1], words[2]) for fact in facts]
        return _new_names(columns, words[1], words[2]), tuple(told)
    if words[0] == "drop":
        number = int(words[1])
        return columns, (*facts[:number], *facts[number + 1:])
    return columns, (*facts, " ".join(words))


def _new_names(names, old, new):
    return tuple([new if name == old else name for name in names])


# The first word of a fact can be the name of a column too.
def _renamed(words, old, new):
    return " ".join([words[0], *_new_names(words[1:], old, new)])
