"""What several tests use: errors with their attributes, and layouts tried one by one."""

from itertools import combinations_with_replacement, permutations
from random import Random

from unbrokenrows.tables import Table
from unbrokenrows.trees import Tree

TWELVE = list("abcdefghijkl")


def check_raises(case, error, told, call, *args, **more):
    """The call raises exactly this error, with these values as its attributes."""
    with case.assertRaises(error) as caught:
        call(*args, **more)
    case.assertIs(type(caught.exception), error)
    case.assertEqual(vars(caught.exception), told)


def as_range(places):
    return list(range(places[0], places[-1] + 1)) if places else []


def in_one_piece(names, order):
    """True if these columns stand side by side; by the places, as the program does not do it."""
    places = [place for place, name in enumerate(order) if name in names]
    return places == as_range(places)


def layouts_of(table):
    """All layouts in ascending order, all orders being tried."""
    orders = permutations(table.columns)
    return [list(order) for order in orders if all(in_one_piece(row, order) for row in table.rows)]


def layouts_of_form(form):
    """All layouts of a form, by the words of point [11], without a sequence."""
    if form == ():
        return [[]]
    if isinstance(form, str):
        return [[form]]
    children = form[1:]
    sequences = list(permutations(children)) if form[0] == "loose" else [children, children[::-1]]
    found = []
    for sequence in sequences:
        heads = [[]]
        for child in sequence:
            heads = [head + tail for head in heads for tail in layouts_of_form(child)]
        found.extend(heads)
    return found


def random_table(random, names, most_rows):
    columns = random.sample(names, len(names))
    many = random.randint(0, most_rows)
    return Table(columns, [random.sample(columns, random.randint(0, len(columns))) for _ in range(many)])


def small_tables(seed, many, most_columns=5, most_rows=5):
    """Tables of up to five columns, the same ones in each run."""
    random = Random(seed)
    return [random_table(random, TWELVE[:random.randint(0, most_columns)], most_rows) for _ in range(many)]


def table_with_layout(random, columns, many):
    """A table whose rows are stretches of a hidden order."""
    hidden = random.sample(columns, len(columns))
    rows = []
    for _ in range(many):
        low, high = sorted([random.randint(0, len(columns)), random.randint(0, len(columns))])
        rows.append(random.sample(hidden[low:high], high - low))
    return Table(columns, rows)


def random_form(random, names):
    """A form with these columns, normal or not."""
    if len(names) == 0:
        return ()
    if len(names) == 1:
        return names[0]
    word = random.choice(["loose", "firm"]) if len(names) > 2 else "loose"
    many = random.randint(3 if word == "firm" else 2, len(names))
    names = random.sample(names, len(names))
    cuts = [0] + sorted(random.sample(range(1, len(names)), many - 1)) + [len(names)]
    return (word, *[random_form(random, names[cuts[k]:cuts[k + 1]]) for k in range(many)])


def subsets(names):
    """All sets of these names, in their order."""
    return [[name for at, name in enumerate(names) if mask >> at & 1] for mask in range(1 << len(names))]


def keeps_pairs(order, pairs):
    return all(order.index(a) < order.index(b) for a, b in pairs)


def kept_of(table, pairs):
    """All kept layouts in ascending order, all orders being tried."""
    return [order for order in layouts_of(table) if keeps_pairs(order, pairs)]


def random_pairs(random, columns, many):
    return [tuple(random.sample(columns, 2)) for _ in range(many)] if len(columns) > 1 else []


def small_tables_with_pairs(seed, many, most_columns=5):
    """Tables that have layouts, each with a few pairs, which may clash."""
    random = Random(seed)
    found = []
    for _ in range(many):
        columns = random.sample(TWELVE[:most_columns], random.randint(0, most_columns))
        table = table_with_layout(random, columns, random.choice([0, 0, 1, 2, 3, 5]))
        found.append((table, random_pairs(random, columns, random.choice([0, 1, 1, 2, 2, 3, 4, 6]))))
    return found


def table_of_form(random, most_columns):
    """A table whose tree is a random one, so that firm pieces stand inside each other too."""
    columns = random.sample(TWELVE, random.randint(1, most_columns))
    return Table(columns, Tree.made(columns, random_form(random, columns)).telling_rows())


def pairs_of_order(random, order, many):
    """Pairs that this order keeps."""
    pairs = [random.sample(range(len(order)), 2) for _ in range(many)] if len(order) > 1 else []
    return [(order[min(pair)], order[max(pair)]) for pair in pairs]


def check_blocks(case, table, blocks):
    """The blocks of a clash or a reason: sure, not empty, in order, and without common columns."""
    orders = layouts_of(table)
    case.assertIsInstance(blocks, tuple)
    for block in blocks:
        case.assertTrue(block)
        case.assertEqual(block, tuple(name for name in table.columns if name in block))
        case.assertTrue(all(in_one_piece(block, order) for order in orders))
    names = [name for block in blocks for name in block]
    case.assertEqual(len(names), len(set(names)))


def block_of(blocks, name):
    """The number of the block that has a column, -1 if none has."""
    return ([number for number, block in enumerate(blocks) if name in block] + [-1])[0]


def check_turn(case, table, blocks):
    """Three or more blocks, each two consecutive ones sure together."""
    case.assertGreaterEqual(len(blocks), 3)
    orders = layouts_of(table)
    for one, other in zip(blocks, blocks[1:]):
        case.assertTrue(all(in_one_piece(one + other, order) for order in orders))


def check_clash(case, table, told, kind, blocks, pairs):
    """What is shown is a clash of some of the told pairs."""
    check_blocks(case, table, blocks)
    case.assertIsInstance(pairs, tuple)
    case.assertTrue(all(pair in [tuple(one) for one in told] for pair in pairs))
    ways = [(block_of(blocks, a), block_of(blocks, b)) for a, b in pairs]
    if kind == "ring":
        case.assertGreaterEqual(len(blocks), 2)
        case.assertEqual(ways, [(at, (at + 1) % len(blocks)) for at in range(len(blocks))])
    else:
        case.assertEqual((kind, len(pairs)), ("turn", 2))
        check_turn(case, table, blocks)
        case.assertTrue(-1 < ways[0][0] < ways[0][1] and ways[1][0] > ways[1][1] > -1)


def check_new_lists(case, make):
    """What a call returns can be changed, and this changes nothing that comes later."""
    found = make()
    before = list(found)
    found.clear()
    case.assertEqual(make(), before)


def random_spans(random, table, many, most=3):
    """Told spans with small numbers about rows that are not empty."""
    numbers = [number for number in range(len(table)) if table[number]]
    found = []
    for _ in range(many if numbers else 0):
        least = random.randint(0, most - 1)
        found.append((random.choice(numbers), least, random.choice([None, least, random.randint(least, most)])))
    return found


def datings(many, last):
    """All lists of years from 0 to a last one that begin with 0 and never decrease."""
    return [[0, *years] for years in combinations_with_replacement(range(last + 1), many - 1)] if many else [[]]


def keeps_spans(table, told, order, years):
    for number, least, most in told:
        found = [year for name, year in zip(order, years) if name in table[number]]
        if not least <= max(found) - min(found) <= (10 ** 9 if most is None else most):
            return False
    return True


def check_numbers(case, told, less, more):
    """Two tuples of numbers of told spans, ascending and without doubles; the latter have a greatest time."""
    for numbers in (less, more):
        case.assertIsInstance(numbers, tuple)
        case.assertEqual(list(numbers), sorted(set(numbers)))
        case.assertTrue(all(0 <= number < len(told) for number in numbers))
    case.assertTrue(all(told[number][2] is not None for number in more))


def spans_over(table, told, numbers, one, other):
    """In how many rows of these spans two columns lie together."""
    return sum(one in table[told[number][0]] and other in table[told[number][0]] for number in numbers)


def surplus(told, less, more):
    """The sum of the least times of `less` minus the sum of the greatest times of `more`."""
    return sum(told[number][1] for number in less) - sum(told[number][2] for number in more)


def check_no_dating(case, table, told, less, more):
    """The tuples show, as point [38] says, that no layout has a dating that keeps the spans."""
    check_numbers(case, told, less, more)
    case.assertGreater(surplus(told, less, more), 0)
    for order in layouts_of(table):
        for one, other in zip(order, order[1:]):
            case.assertLessEqual(spans_over(table, told, less, one, other), spans_over(table, told, more, one, other))


def random_windows(random, columns, many, last=4):
    """Told windows with small years for some columns."""
    found = []
    for name in random.sample(columns, min(many, len(columns))):
        low = random.randint(-last, last)
        found.append((name, low, low + random.choice([0, 1, 2, last])))
    return found


def keeps_windows(told, order, years):
    return all(low <= years[order.index(name)] <= high for name, low, high in told)


def is_dated(table, spans, windows, order, years):
    """True if the years are a dating of the order that keeps the spans and the windows."""
    if len(years) != len(order) or list(years) != sorted(years):
        return False
    return keeps_spans(table, spans, order, years) and keeps_windows(windows, order, years)


def can_be_dated(table, spans, windows, order):
    """Whether there are such years: by the greatest sums of all ways between all places, and the year 0."""
    zero, low = len(order), -10 ** 12
    sums = [[0 if one == other else low for other in range(zero + 1)] for one in range(zero + 1)]

    def bound(one, other, length):
        sums[one][other] = max(sums[one][other], length)
    for at in range(1, len(order)):
        bound(at - 1, at, 0)
    for number, least, most in spans:
        places = sorted(order.index(name) for name in table[number])
        bound(places[0], places[-1], least)
        if most is not None:
            bound(places[-1], places[0], -most)
    for name, first, last in windows:
        bound(zero, order.index(name), first)
        bound(order.index(name), zero, -last)
    for middle in range(zero + 1):
        for one in range(zero + 1):
            for other in range(zero + 1):
                bound(one, other, sums[one][middle] + sums[middle][other])
    return all(sums[at][at] <= 0 for at in range(zero + 1))
