"""What several tests use: errors with their attributes, and layouts tried one by one."""

from itertools import permutations
from random import Random

from unbrokenrows.tables import Table

TWELVE = list("abcdefghijkl")


def check_raises(case, error, told, call, *args, **more):
    """The call raises exactly this error, with these values as its attributes."""
    with case.assertRaises(error) as caught:
        call(*args, **more)
    case.assertIs(type(caught.exception), error)
    case.assertEqual(vars(caught.exception), told)


def as_range(places):
    return list(range(places[0], places[-1] + 1)) if places else []


def in_one_piece(names, order):
    """True if these columns stand side by side; by the places, as the program does not do it."""
    places = [place for place, name in enumerate(order) if name in names]
    return places == as_range(places)


def layouts_of(table):
    """All layouts in ascending order, all orders being tried."""
    orders = permutations(table.columns)
    return [list(order) for order in orders if all(in_one_piece(row, order) for row in table.rows)]


def layouts_of_form(form):
    """All layouts of a form, by the words of point [11], without a sequence."""
    if form == ():
        return [[]]
    if isinstance(form, str):
        return [[form]]
    children = form[1:]
    sequences = list(permutations(children)) if form[0] == "loose" else [children, children[::-1]]
    found = []
    for sequence in sequences:
        heads = [[]]
        for child in sequence:
            heads = [head + tail for head in heads for tail in layouts_of_form(child)]
        found.extend(heads)
    return found


def random_table(random, names, most_rows):
    columns = random.sample(names, len(names))
    many = random.randint(0, most_rows)
    return Table(columns, [random.sample(columns, random.randint(0, len(columns))) for _ in range(many)])


def small_tables(seed, many, most_columns=5, most_rows=5):
    """Tables of up to five columns, the same ones in each run."""
    random = Random(seed)
    return [random_table(random, TWELVE[:random.randint(0, most_columns)], most_rows) for _ in range(many)]


def table_with_layout(random, columns, many):
    """A table whose rows are stretches of a hidden order."""
    hidden = random.sample(columns, len(columns))
    rows = []
    for _ in range(many):
        low, high = sorted([random.randint(0, len(columns)), random.randint(0, len(columns))])
        rows.append(random.sample(hidden[low:high], high - low))
    return Table(columns, rows)


def random_form(random, names):
    """A form with these columns, normal or not."""
    if len(names) == 0:
        return ()
    if len(names) == 1:
        return names[0]
    word = random.choice(["loose", "firm"]) if len(names) > 2 else "loose"
    many = random.randint(3 if word == "firm" else 2, len(names))
    names = random.sample(names, len(names))
    cuts = [0] + sorted(random.sample(range(1, len(names)), many - 1)) + [len(names)]
    return (word, *[random_form(random, names[cuts[k]:cuts[k + 1]]) for k in range(many)])


def subsets(names):
    """All sets of these names, in their order."""
    return [[name for at, name in enumerate(names) if mask >> at & 1] for mask in range(1 << len(names))]
