"""Derivations: how sure sets follow from the rows of a table, and which rows are not needed."""

from unbrokenrows.breaking import broken_layout
from unbrokenrows.errors import BadNumber, BadStep, NotSure
from unbrokenrows.parts import mask_of, names_in, part_of
from unbrokenrows.tables import check_known
from unbrokenrows.trees import Tree


def follow(table, steps):
    """The sets of the steps of a derivation."""
    masks = []
    for index, step in enumerate(steps):
        mask = _step_mask(table, step, masks)
        if mask == 0:
            raise BadStep(index)
        masks.append(mask)
    return [names_in(mask, table.columns) for mask in masks]


def _step_mask(table, step, masks):
    """The set of a step behind steps with these sets, empty if the step is not allowed."""
    word = step[0]
    if word == "row":
        return mask_of(table[step[1]], table.columns) if 0 <= step[1] < len(table) else 0
    if word == "all":
        return mask_of(table.columns, table.columns)
    if word == "one":
        return mask_of([step[1]], table.columns)
    if not (0 <= step[1] < len(masks) and 0 <= step[2] < len(masks)):
        return 0
    return _combined(word, masks[step[1]], masks[step[2]])


def _combined(word, one, other):
    common = one & other
    if word == "both" or common == 0:
        return common
    if word == "either":
        return one | other
    return 0 if common == other else one - common


def derive(table, names):
    """Some derivation whose last step has exactly these columns."""
    check_known(table.columns, names)
    if len(names) == 0:
        raise BadNumber(0)
    tree = Tree.of(table)
    goal = mask_of(names, table.columns)
    if not tree.is_sure(names):
        order = broken_layout(part_of(tree.form, table.columns), goal)
        raise NotSure([table.columns[number] for number in order])
    steps = _steps_to(table, goal)
    return _pruned(steps)


# Every sure set comes up, since combining goes on until the goal is there. There are few sure
# sets, so this ends soon.
def _steps_to(table, goal):
    """Steps with different sets, the last one with the set of the goal."""
    steps = _first_steps(table)
    masks = list(steps)
    at = 0
    while goal not in steps:
        for number in range(at + 1):
            for step in _pair_steps(at, number):
                mask = _step_mask(table, step, masks)
                if mask != 0 and mask not in steps:
                    steps[mask] = step
                    masks.append(mask)
        at += 1
    return [steps[mask] for mask in masks[:masks.index(goal) + 1]]


def _first_steps(table):
    """The steps that need no earlier ones, by their sets."""
    steps = [("row", number) for number in range(len(table))]
    steps.append(("all",))
    steps.extend([("one", name) for name in table.columns])
    found = {}
    for step in steps:
        mask = _step_mask(table, step, [])
        if mask != 0 and mask not in found:
            found[mask] = step
    return found


def _pair_steps(one, other):
    return [("both", one, other), ("either", one, other), ("first", one, other), ("first", other, one)]


def _pruned(steps):
    """The steps that the last one needs, with new numbers."""
    needed = {len(steps) - 1: True}
    for number in range(len(steps) - 1, -1, -1):
        if number in needed and len(steps[number]) == 3:
            needed[steps[number][1]] = True
            needed[steps[number][2]] = True
    kept = sorted(needed)
    new = {number: at for at, number in enumerate(kept)}
    return [_renumbered(steps[number], new) for number in kept]


def _renumbered(step, new):
    return (step[0], new[step[1]], new[step[2]]) if len(step) == 3 else step


def needless_rows(table):
    """The numbers of the rows without which the table has the same layouts."""
    Tree.of(table)
    return [number for number in range(len(table)) if _is_needless(table, number)]


def thinned(table):
    """The table without rows that are needless when their turn comes."""
    Tree.of(table)
    number = 0
    while number < len(table):
        if _is_needless(table, number):
            table = table.without(number)
        else:
            number += 1
    return table


def _is_needless(table, number):
    return Tree.of(table.without(number)).is_sure(table[number])
