"""A desk by the words of points [62] to [66], for the tests: its lines as a grammar, its facts as lists."""

import re

from unbrokenrows.errors import RowsError
from unbrokenrows.keeping import Kept
from unbrokenrows.places import far, mean_place, places, share_before
from unbrokenrows.questions import read_question
from unbrokenrows.rings import Ring
from unbrokenrows.spans import Spans, lasting
from unbrokenrows.tables import Table
from unbrokenrows.windows import Windows
from unbrokenrows.worlds import verdict

FACTS = ["row A+", "near A A", "end A", "first A", "last A", "before A A", "over A A", "span LEAST MOST A+",
         "window A LOW HIGH"]
CHANGES = ["column NEW", "remove A", "rename A NEW", "drop NUMBER"]
ASKED = ["ask verdict", "ask layout", "ask years", "ask count", "ask ring", "ask places A", "ask far A A",
         "ask share A A", "ask mean A", "ask sure A+", "ask time A+"]
QUESTIONS = ["before A A", "between A A A", "beside A A", "place A PLACE"]
FORMS = [form.split(" ") for form in FACTS + CHANGES + ASKED]
ASKED_QUESTIONS = [f"ask {word}{form}".split(" ") for form in QUESTIONS for word in ("", "not ")]
NUMBER = "0|[1-9][0-9]{0,6}"
WORDS = {"A": "[a-z]{1,8}", "NEW": "[a-z]{1,8}", "LEAST": NUMBER, "MOST": f"-|{NUMBER}", "NUMBER": NUMBER,
         "LOW": f"{NUMBER}|-[1-9][0-9]{{0,6}}", "HIGH": f"{NUMBER}|-[1-9][0-9]{{0,6}}", "PLACE": "[0-9]|1[01]"}
GREAT = 10 ** 6


class Wrong(Exception):
    """The name and the value of the error that a line must raise."""


def roles_of(form, words):
    """The roles of so many words in a form, None if some word does not fit."""
    roles = list(form)
    if form[-1] == "A+":
        roles = roles[:-1] + ["A"] * max(1, len(words) - len(form) + 1)
    fits = len(words) <= len(roles) and all(re.fullmatch(WORDS.get(role, role), word)
                                            for role, word in zip(roles, words))
    return roles if fits else None


def roles_in(words):
    """The roles of all words of a line."""
    if words[0] == "ask" and words[1:2] and words[1] in ("before", "between", "beside", "place", "not"):
        for form in ASKED_QUESTIONS:
            roles = roles_of(form, words)
            names = [word for role, word in zip(roles or [], words) if role == "A"]
            if roles and len(roles) == len(words) and len(names) == len(set(names)):
                return roles
        raise Wrong("BadLine", 1)
    for place in range(len(words)):
        fitting = [roles_of(form, words[:place + 1]) for form in FORMS]
        if not any(fitting):
            raise Wrong("BadLine", place)
    whole = [roles for roles in fitting if roles and len(roles) == len(words)]
    if not whole:
        raise Wrong("BadLine", len(words))
    return whole[0]


def check_model(columns, facts, line):
    """Raises Wrong if the line cannot be done, strictness and worlds aside."""
    words = line.split(" ")
    roles = roles_in(words)
    names = [word for role, word in zip(roles, words) if role == "A"]
    for name in names:
        if name not in columns:
            raise Wrong("UnknownColumn", name)
    for at, name in enumerate(names):
        if name in names[:at]:
            raise Wrong("SameColumn", name)
    told = {role: int(word) for role, word in zip(roles, words) if role in WORDS and word.lstrip("-").isdigit()}
    ranges = {"LEAST": (0, GREAT), "MOST": (told.get("LEAST"), GREAT), "LOW": (-GREAT, GREAT),
              "HIGH": (told.get("LOW"), GREAT), "NUMBER": (0, len(facts) - 1), "PLACE": (0, 11)}
    for role, value in told.items():
        if not ranges[role][0] <= value <= ranges[role][1]:
            raise Wrong("BadNumber", value)
    for role, word in zip(roles, words):
        if role == "NEW" and word in columns:
            raise Wrong("Taken", word)
    if words[0] == "window" and any(fact.startswith(f"window {words[1]} ") for fact in facts):
        raise Wrong("Taken", words[1])
    if words[0] == "remove":
        used = [number for number, fact in enumerate(facts) if words[1] in fact.split(" ")[1:]]
        if used:
            raise Wrong("InUse", used[0])
    if words[0] in [form.split(" ")[0] for form in FACTS] and len(facts) == 24:
        raise Wrong("TooMany", 24)
    if words[0] == "column" and len(columns) == 12:
        raise Wrong("TooMany", 12)


def model_after(columns, facts, line):
    """The columns and the facts after a line that is right and no question."""
    word, *rest = line.split(" ")
    if word == "column":
        return [*columns, *rest], facts
    if word == "remove":
        return [name for name in columns if name != rest[0]], facts
    if word == "drop":
        return columns, [fact for number, fact in enumerate(facts) if number != int(rest[0])]
    if word == "rename":
        old, new = rest
        told = [re.sub(rf"(?<= ){old}(?= |$)", new, fact) for fact in facts]
        return [new if name == old else name for name in columns], told
    return columns, [*facts, line]


def told_of(columns, facts):
    """The told table, pairs, spans and windows."""
    rows, pairs, spans, windows = [], [], [], []
    for fact in facts:
        word, *rest = fact.split(" ")
        others = [name for name in columns if name != rest[0]]
        if word == "span":
            spans.append((len(rows), int(rest[0]), None if rest[1] == "-" else int(rest[1])))
            rows.append(rest[2:])
        elif word in ("row", "near"):
            rows.append(rest)
        elif word in ("end", "first", "last"):
            rows.append(others)
        elif word == "window":
            windows.append((rest[0], int(rest[1]), int(rest[2])))
        told = {"before": [tuple(rest)], "over": [tuple(rest[::-1])], "first": [(rest[0], name) for name in others],
                "last": [(name, rest[0]) for name in others]}.get(word, [])
        pairs.extend(pair for pair in told if pair not in pairs)
    return Table(columns, rows), pairs, spans, windows


def answer_of(columns, facts, line):
    """The answer to a question that is right; raises what the functions raise, or Wrong for a missing world."""
    table, pairs, spans, windows = told_of(columns, facts)
    word, *names = line.split(" ")[1:]
    if word == "ring":
        return value_or_nought(lambda: Ring.of(table).count())
    if word == "count":
        return value_or_nought(lambda: kept_of_model(table, pairs, windows).count())
    found = verdict(table, pairs, spans, windows)
    if word == "verdict":
        return found.word
    if found.word != "world":
        raise Wrong("NoWorld", found.word)
    kept = kept_of_model(table, pairs, windows)
    answers = {"layout": lambda: found.layout, "years": lambda: found.years, "places": lambda: places(kept, *names),
               "far": lambda: (far(kept, *names).least, far(kept, *names).most),
               "share": lambda: str(share_before(kept, *names)), "mean": lambda: str(mean_place(kept, *names)),
               "sure": lambda: kept.is_sure(names),
               "time": lambda: (lasting(Spans(table, spans), names).least, lasting(Spans(table, spans), names).most)}
    return answers[word]() if word in answers else read_question(line[len("ask "):])(kept).word


def kept_of_model(table, pairs, windows):
    return Kept(table, [*pairs, *Windows(table, windows).forced()])


def value_or_nought(call):
    try:
        return call()
    except RowsError:
        return 0


def random_line(random, columns, facts, kinds=(FACTS, CHANGES, ASKED, QUESTIONS)):
    """A line of some kind, most often with columns and numbers that fit."""
    names = [*columns, *["x"] * (random.random() < 0.05)] or ["x"]
    kind = random.choice(kinds)
    form = random.choice(kind)
    if kind is QUESTIONS:
        form = f"ask {random.choice(['', 'not '])}{form}"
    words = form.split(" ")
    if words[-1] == "A+":
        words[-1:] = ["A"] * random.randint(1, min(3, len(names)))
    picked = random.sample(names, len(names)) + [random.choice(names) for _ in words]
    least, low = random.randint(0, 4), random.randint(-4, 4)
    told = {"NEW": random.choice("abcdefghijklmn"), "LEAST": least, "MOST": random.choice(["-", least, least + 3]),
            "LOW": low, "HIGH": low + random.randint(0, 6), "NUMBER": random.randint(0, max(0, len(facts) - 1)),
            "PLACE": random.randint(0, 5)}
    return " ".join(picked.pop(0) if word == "A" else str(told.get(word, word)) for word in words)


def spoiled(random, line):
    """The line with a word changed, left out, doubled or put in."""
    words = line.split(" ")
    at = random.randrange(len(words))
    strange = random.choice(["", "A", "a", "-", "-0", "07", "0", "12", "10000000", "9999999", "-9999999", "1000001",
                             "-1000001", "+1", "ask", "row", "not", "before", "abcdefghi", "verdict", "b1"])
    return " ".join(random.choice([[*words[:at], strange, *words[at + 1:]], [*words[:at], *words[at + 1:]],
                                   [*words[:at], strange, *words[at:]], [*words, strange], [*words[:at], words[at],
                                                                                          *words[at:]]]))
