"""Loads: which rows are worth most if each column has few rooms for them, and prices that show it."""

from unbrokenrows.bounds import Longest, marked
from unbrokenrows.errors import BadNumber, BadWorths
from unbrokenrows.spans import ends_of
from unbrokenrows.trees import Tree

MOST_WORTH = 999
MOST_ROOMS = 4


class Load:
    """Chosen rows, the sum of their worths, and prices of the columns that show that no sum is greater."""

    def __init__(self, chosen, worth, prices):
        self.chosen = chosen
        self.worth = worth
        self.prices = prices


def best(table, worths, rooms):
    """The choice of rows with the greatest sum of worths, each column being in so many of them at most."""
    order = Tree.of(table).first()
    _check_worths(table, worths)
    if not 0 <= rooms <= MOST_ROOMS:
        raise BadNumber(rooms)
    chosen, sums = _chosen_and_sums(order, _stretches(table, order, worths), rooms)
    chosen.extend([number for number, row in enumerate(table.rows) if len(row) == 0])
    prices = {name: sums[order.index(name) + 1] - sums[order.index(name)] for name in table.columns}
    return Load(tuple(sorted(chosen)), sum([worths[number] for number in chosen]), prices)


def _check_worths(table, worths):
    both = min(len(worths), len(table))
    for index in range(max(len(worths), len(table))):
        if index >= both or not 0 <= worths[index] <= MOST_WORTH:
            raise BadWorths(index)


def _stretches(table, order, worths):
    """For each row that is not empty its number, its ends in the layout and its worth."""
    return [(number, *ends_of(order, row), worths[number]) for number, row in enumerate(table.rows) if row]


# Each room is a way from the first to the last place, over rows and over free places. One more room is
# the best way when all that was chosen before can be given up again.
def _chosen_and_sums(order, stretches, rooms):
    """The best choice of rows, and what one more room would bring up to each place."""
    end = len(order)
    chosen = []
    for many in range(rooms):
        way = Longest(end + 1, _steps(order, stretches, chosen, many), 0).bounds_to(end)
        given_up = marked(way, "out")
        chosen = [*[number for number in chosen if number not in given_up], *marked(way, "in")]
    return chosen, Longest(end + 1, _steps(order, stretches, chosen, rooms), 0).sums


def _steps(order, stretches, chosen, many):
    """The steps of one more way when so many ways go over the chosen rows and over free places."""
    steps = []
    for place in range(len(order)):
        steps.append((place, place + 1, 0, None))
        taken = [number for number, low, high, _ in stretches if number in chosen and low <= place <= high]
        if len(taken) < many:
            steps.append((place + 1, place, 0, None))
    for number, low, high, worth in stretches:
        if number in chosen:
            steps.append((high + 1, low, -worth, ("out", number)))
        else:
            steps.append((low, high + 1, worth, ("in", number)))
    return steps
