"""The fewest told pairs that can be left out so that a layout keeps the others."""

from unbrokenrows.leads import fork
from unbrokenrows.parts import numbers_in, pieces_of


def left_out(part, pairs):
    """The ascending numbers of such pairs. Columns are numbers here."""
    forks = [fork(part, one, other) for one, other in pairs]
    found = []
    for piece in pieces_of(part):
        numbers = [number for number, (lowest, here, there) in enumerate(forks) if lowest.mask == piece.mask]
        steps = [forks[number][1:] for number in numbers]
        sequence = _best_sequence(piece, steps)
        found.extend([number for number in numbers if _is_against(sequence, forks[number][1:])])
    return sorted(found)


def _best_sequence(piece, steps):
    """A sequence of the children that has as few of the steps as possible against it."""
    many = len(piece.children)
    if piece.word == "loose":
        return _best_loose_sequence(many, steps)
    forward = [step for step in steps if step[0] < step[1]]
    sequence = list(range(many))
    return sequence if 2 * len(forward) >= len(steps) else sequence[::-1]


def _best_loose_sequence(many, steps):
    """Best sequences for ever larger sets of children, each by the child that stands last in it."""
    weights = [[steps.count((one, other)) for other in range(many)] for one in range(many)]
    costs = [0] * (1 << many)
    lasts = [0] * (1 << many)
    for mask in range(1, 1 << many):
        numbers = numbers_in(mask)
        options = [(costs[mask - (1 << last)] + _weight_into(weights[last], numbers), last) for last in numbers]
        costs[mask], lasts[mask] = min(options)
    sequence = []
    left = (1 << many) - 1
    while left:
        sequence.append(lasts[left])
        left = left - (1 << lasts[left])
    return sequence[::-1]


def _weight_into(weights, numbers):
    return sum([weights[other] for other in numbers])


def _is_against(sequence, step):
    return sequence.index(step[0]) > sequence.index(step[1])
