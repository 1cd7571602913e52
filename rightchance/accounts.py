"""The numbers of all parts of a plan, and the first part that says too much."""

from rightchance.chance import chance_of
from rightchance.judging import atoms_without
from rightchance.plans import atoms_beneath, check_plan, pairs_in_order
from rightchance.questions import body_under
from rightchance.reckoning import Exact
from rightchance.shares import compare_shares
from rightchance.sheets import sheets_of_parts


def account_of(store, join, plan):
    """Return the tuple of the triples of a part of the plan, its columns, and the pairs of its rows and numbers."""
    check_plan(join, plan)
    pairs = sheets_of_parts(store, join, plan, Exact())
    return tuple([(part, columns, pairs_in_order(numbers)) for part, (columns, numbers) in pairs])


def first_excess(store, join, plan):
    """Return the first part of the plan that says too much, its least such row, its number and the chance, or None."""
    for part, columns, pairs in account_of(store, join, plan):
        # The number of each other part is the chance if the numbers of the parts in it are, and those come first.
        if part[0] == "project" and atoms_without(join, part[1], part[2]):
            for row, number in pairs:
                chance = chance_beneath(store, join, part, dict(zip(columns, row)))
                if compare_shares(number, chance) > 0:
                    return (part, row, number, chance)
    return None


def chance_beneath(store, join, part, valuation):
    """Return the chance of the closed join of the atoms beneath the part in which its columns have their values."""
    body = tuple([join[1][index] for index in atoms_beneath(part)])
    return chance_of(store, (0, (((), body_under(valuation, body)),)))
