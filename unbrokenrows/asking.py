"""The answers to the lines of a desk that are questions."""

from unbrokenrows.errors import Clash, NoLayout, NoRing, NoWorld
from unbrokenrows.facts import kept_of, spans_of, table_of, verdict_of
from unbrokenrows.places import far, mean_place, places, share_before
from unbrokenrows.questions import read_question
from unbrokenrows.rings import Ring
from unbrokenrows.spans import Spans, lasting


def answer_of(columns, facts, words):
    """The answer to a question that can be asked about these columns and facts."""
    if words[1] == "count":
        return _count_of_layouts(columns, facts)
    if words[1] == "ring":
        return _count_of_ring_layouts(columns, facts)
    found = verdict_of(columns, facts)
    if words[1] == "verdict":
        return found.word
    if found.word != "world":
        raise NoWorld(found.word)
    if words[1] == "layout":
        return found.layout
    if words[1] == "years":
        return found.years
    return _answer_on_kept(kept_of(columns, facts), spans_of(facts), words)


def _count_of_layouts(columns, facts):
    try:
        return kept_of(columns, facts).count()
    except (NoLayout, Clash):
        return 0


def _count_of_ring_layouts(columns, facts):
    try:
        return Ring.of(table_of(columns, facts)).count()
    except NoRing:
        return 0


def _answer_on_kept(kept, spans, words):
    names = words[2:]
    if words[1] == "places":
        return places(kept, names[0])
    if words[1] == "far":
        found = far(kept, names[0], names[1])
        return found.least, found.most
    if words[1] == "share":
        return str(share_before(kept, names[0], names[1]))
    if words[1] == "mean":
        return str(mean_place(kept, names[0]))
    if words[1] == "sure":
        return kept.is_sure(names)
    if words[1] == "time":
        time = lasting(Spans(kept.table, spans), names)
        return time.least, time.most
    question = read_question(" ".join(words[1:]))
    return question(kept).word
