"""Why told pairs leave no layout, and why a column stands before another one.

Columns are numbers here, and pairs are pairs of such numbers. What is found is a kind, a list of
sets of columns and a list of told pairs.
"""

from unbrokenrows.leads import fork
from unbrokenrows.parts import pieces_of


def find_clash(part, pairs):
    """A ring or a turn of told pairs, None if some layout keeps them all."""
    steps = _steps_by_piece(part, pairs)
    for piece in pieces_of(part):
        found = _clash_of(piece, steps[piece.mask])
        if found is not None:
            return found
    return None


def find_reason(part, pairs, one, other):
    """A chain or a turn of told pairs for which a column stands before another one in all layouts."""
    piece, here, there = fork(part, one, other)
    steps = _steps_by_piece(part, pairs)[piece.mask]
    if piece.word == "firm":
        blocks = _masks(piece.children if here < there else piece.children[::-1])
        return "turn", blocks, list(steps.values())[:1]
    path = shortest_path(steps, here, there)
    return "chain", _masks([piece.children[child] for child in path]), _pairs_on(steps, path)


def _steps_by_piece(part, pairs):
    """For each piece the pairs that concern it, by the two children that they lead from and to."""
    steps = {piece.mask: {} for piece in pieces_of(part)}
    for one, other in pairs:
        piece, here, there = fork(part, one, other)
        steps[piece.mask].setdefault((here, there), (one, other))
    return steps


def _clash_of(piece, steps):
    if piece.word == "firm":
        return _turn_of(piece, steps)
    for here, there in steps:
        path = shortest_path(steps, there, here)
        if path is not None:
            return "ring", _masks([piece.children[child] for child in path]), _pairs_on(steps, [*path, there])
    return None


def _turn_of(piece, steps):
    forward = [steps[here, there] for here, there in steps if here < there]
    backward = [steps[here, there] for here, there in steps if here > there]
    if not forward or not backward:
        return None
    return "turn", _masks(piece.children), [forward[0], backward[0]]


def shortest_path(steps, here, there):
    """What stands on a shortest way by these steps from one end to the other, None if there is no way."""
    paths = {here: [here]}
    reached = [here]
    while reached:
        child = reached.pop(0)
        for start, end in steps:
            if start == child and end not in paths:
                paths[end] = [*paths[child], end]
                reached.append(end)
    return paths.get(there, None)


def _pairs_on(steps, path):
    return [steps[path[at], path[at + 1]] for at in range(len(path) - 1)]


def _masks(children):
    return [child.mask for child in children]
