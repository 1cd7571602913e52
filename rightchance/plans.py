"""Plans for simple closed joins: which are valid, their columns, and the numbers that they give."""

from rightchance.errors import NoPlan
from rightchance.questions import variables_among
from rightchance.reckoning import Exact
from rightchance.shares import ZERO
from rightchance.sheets import sheet_of
from rightchance.values import row_key


def is_plan(join, plan):
    """Tell if all joins in the plan have at least two plans and it is valid for the join."""
    return scans_fit(join, plan) and projections_fit(join, plan) and columns_of(join, plan) == ()


def check_plan(join, plan):
    """Raise NoPlan if is_plan is False for the plan."""
    if not is_plan(join, plan):
        raise NoPlan("the plan is not valid for the join")


def scans_fit(join, plan):
    """Tell if all joins in the plan have at least two plans, and it scans each atom of the join just once."""
    seen = set()
    waiting = [plan]
    while waiting:
        part = waiting.pop()
        if part[0] == "scan":
            index = part[1]
            if index < 0 or index >= len(join[1]) or index in seen:
                return False
            seen.add(index)
        elif part[0] == "project":
            waiting.append(part[2])
        elif len(part[1]) < 2:
            return False
        else:
            waiting.extend(part[1])
    return len(seen) == len(join[1])


def projections_fit(join, plan):
    """Tell if the variable of each projection is a column beneath it and stands in no atom that is not beneath it."""
    for variable, beneath in projections_of(plan):
        if variable not in columns_of(join, beneath):
            return False
        inside = atoms_beneath(beneath)
        outside = [term for index, atom in enumerate(join[1]) if index not in inside for term in atom[1]]
        if variable in variables_among(outside):
            return False
    return True


def projections_of(plan):
    """Return the list of the pairs of a variable and a plan, one for each projection in the plan."""
    pairs = []
    waiting = [plan]
    while waiting:
        part = waiting.pop()
        if part[0] == "project":
            pairs.append((part[1], part[2]))
            waiting.append(part[2])
        elif part[0] == "join":
            waiting.extend(part[1])
    return pairs


def scans_of(plan):
    """Return the list of the pairs of an index and the tuple of the variables projected above it, for all scans.

    Equal pairs may be left out.
    """
    pairs = []
    # A plan that is no valid one may be built of the same part over and over, more often than one could go through.
    looked_at = []
    waiting = [(plan, ())]
    while waiting:
        part, taken = waiting.pop()
        if part[0] == "scan":
            pairs.append((part[1], taken))
        elif (part, taken) not in looked_at:
            looked_at.append((part, taken))
            if part[0] == "project":
                waiting.append((part[2], taken + (part[1],)))
            else:
                waiting.extend([(beneath, taken) for beneath in part[1]])
    return pairs


def columns_of(join, plan):
    """Return the tuple of the columns of the plan."""
    columns = {}
    for index, taken in scans_of(plan):
        for variable in variables_among(join[1][index][1]):
            if variable not in taken:
                columns[variable] = True
    return tuple(sorted(columns))


def added_in(join, plan):
    """Return a tuple with the tuple of the added variables of each atom in a valid plan, in alphabetical order.

    They are the variables that do not stand in the atom and are projected above it.
    """
    added = [()] * len(join[1])
    for index, taken in scans_of(plan):
        own = variables_among(join[1][index][1])
        added[index] = tuple(sorted([x for x in taken if x not in own]))
    return tuple(added)


def atoms_beneath(plan):
    """Return the tuple of the indexes in the scans of the plan, in ascending order, each once."""
    return tuple(sorted({index for index, _ in scans_of(plan)}))


def numbers_of(store, join, plan):
    """Return the tuple of the pairs of a row and its number that is not 0, in ascending order."""
    return pairs_in_order(sheet_of(store, join, plan, Exact())[1])


def pairs_in_order(numbers):
    """Return the tuple of the pairs of a row and its number, in ascending order; the dict numbers has them by rows."""
    return tuple([(row, numbers[row]) for row in sorted(numbers, key=row_key)])


def number_of_plan(store, join, plan):
    """Return the number of a valid plan."""
    return sheet_of(store, join, plan, Exact())[1].get((), ZERO)
