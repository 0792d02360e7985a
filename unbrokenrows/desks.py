"""Desks: columns and facts that can be changed line by line, and back again."""

from unbrokenrows.asking import answer_of
from unbrokenrows.errors import BadText, Hindered, RowsError, RunStopped
from unbrokenrows.facts import kept_of, pairs_of, spans_of, table_of, verdict_of, windows_of
from unbrokenrows.lines import after_line, check_line, is_asked, is_fact
from unbrokenrows.tables import check_columns
from unbrokenrows.tabletexts import is_columns_line


class Desk:
    """Columns and facts about them. A strict desk always has a world."""

    MOST_FACTS = 24

    def __init__(self, *columns, strict=False):
        check_columns(columns)
        self.columns = tuple(columns)
        self.facts = ()
        self._strict = strict
        self._forget_deeds()

    @property
    def strict(self):
        """True if each line must leave a world."""
        return self._strict

    @strict.setter
    def strict(self, value):
        self.change(value)

    def change(self, value):
        """Make the desk strict, or not."""
        if value and not self._strict:
            _check_world(self.columns, self.facts)
            self._forget_deeds()
        self._strict = value

    def told_table(self):
        """The table that the facts tell."""
        return table_of(self.columns, self.facts)

    def told_pairs(self):
        """The pairs of columns that the facts tell."""
        return pairs_of(self.columns, self.facts)

    def told_spans(self):
        """The spans that the facts tell."""
        return spans_of(self.facts)

    def told_windows(self):
        """The windows that the facts tell."""
        return windows_of(self.facts)

    def verdict(self):
        """Whether there is a world."""
        return verdict_of(self.columns, self.facts)

    def kept(self):
        """The layouts that keep the told pairs and those that the windows force."""
        return kept_of(self.columns, self.facts)

    def do(self, line):
        """Do one line. Returns the answer to a question, and None otherwise."""
        before = (self.columns, self.facts)
        words = line.split(" ")
        answer = self._take(words)
        if not is_asked(words):
            self._remember(before)
        return answer

    def run(self, text):
        """Do several lines, all or none of them. Returns the answers to the questions."""
        before = (self.columns, self.facts)
        lines = [line.split(" ") for line in text.split("\n")] if text else []
        answers = []
        for number, words in enumerate(lines):
            try:
                answer = self._take(words)
            except RowsError:
                self.columns, self.facts = before
                raise RunStopped(number) from None
            if is_asked(words):
                answers.append(answer)
        if len(answers) < len(lines):
            self._remember(before)
        return answers

    def undo(self):
        """Take back the last deed. Returns False if there is none."""
        if len(self._done) == 0:
            return False
        self._undone.append((self.columns, self.facts))
        self.columns, self.facts = self._done.pop()
        return True

    def redo(self):
        """Do the deed again that was taken back last. Returns False if there is none."""
        if len(self._undone) == 0:
            return False
        self._done.append((self.columns, self.facts))
        self.columns, self.facts = self._undone.pop()
        return True

    def text(self):
        """The columns and the facts as lines."""
        return "\n".join([" ".join(["columns", *self.columns]), *self.facts])

    def twin(self):
        """A new desk with the same columns, facts and strictness."""
        twin = Desk(*self.columns, strict=self._strict)
        twin.facts = self.facts
        return twin

    @staticmethod
    def read(text):
        """The desk with this text."""
        lines = [line.split(" ") for line in text.split("\n")]
        if not is_columns_line(lines[0]):
            raise BadText(0)
        columns = tuple(lines[0][1:])
        facts = ()
        for number in range(1, len(lines)):
            facts = _with_fact(columns, facts, lines[number], number)
        desk = Desk(*columns)
        desk.facts = facts
        return desk

    # A deed is kept as the columns and the facts that it leads away from, or back to.
    def _remember(self, before):
        self._done.append(before)
        self._undone = []

    def _forget_deeds(self):
        self._done = []
        self._undone = []

    def _take(self, words):
        check_line(self.columns, self.facts, words, Desk.MOST_FACTS)
        if is_asked(words):
            return answer_of(self.columns, self.facts, words)
        columns, facts = after_line(self.columns, self.facts, words)
        if self._strict:
            _check_world(columns, facts)
        self.columns = columns
        self.facts = facts
        return None

    def __eq__(self, other):
        return isinstance(other, Desk) and self.columns == other.columns and self.facts == other.facts


def _check_world(columns, facts):
    word = verdict_of(columns, facts).word
    if word != "world":
        raise Hindered(word)


def _with_fact(columns, facts, words, number):
    """The facts with one more, told by the line with this number."""
    if not is_fact(words):
        raise BadText(number)
    try:
        check_line(columns, facts, words, Desk.MOST_FACTS)
    except RowsError:
        raise BadText(number) from None
    return after_line(columns, facts, words)[1]
