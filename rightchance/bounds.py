"""The plans of orders, and the order whose plan has the least number."""

from itertools import permutations

from rightchance.joining import merged_columns
from rightchance.plans import added_in, number_of_plan
from rightchance.questions import variables_among, variables_of
from rightchance.reckoning import Bounded
from rightchance.shares import compare_shares
from rightchance.sheets import sheet_of


def plan_of_order(join, order):
    """Return the plan of an order of the join."""
    # The plans at hand, with their columns.
    at_hand = [(("scan", index), variables_among(terms)) for index, (_, terms) in enumerate(join[1])]
    for x in order:
        chosen = [pair for pair in at_hand if x in pair[1]]
        place = at_hand.index(chosen[0])
        columns = merged_columns([pair[1] for pair in chosen])
        plan = ("project", x, joined_plan([pair[0] for pair in chosen]))
        before = at_hand[:place]
        behind = [pair for pair in at_hand[place:] if x not in pair[1]]
        at_hand = before + [(plan, tuple([y for y in columns if y != x]))] + behind
    return joined_plan([pair[0] for pair in at_hand])


def joined_plan(plans):
    """Return the join of some plans, or the plan itself if it is a single one."""
    return plans[0] if len(plans) == 1 else ("join", tuple(plans))


def best_order(store, join):
    """Return the pair of the best order of the join for the store, and the number of its plan."""
    best = None
    for order in promising_orders(store, join, list(orders_by_added(join).values())):
        number = number_of_plan(store, join, plan_of_order(join, order))
        # Of orders with the same number the first one is the best, so that a later one must be below it.
        if best is None or compare_shares(number, best[1]) < 0:
            best = (order, number)
    return best


def orders_by_added(join):
    """Return the dict from the added variables of the atoms to the first order of the join in whose plan they are so.

    Plans in which each atom has the same added variables have the same number in every store.
    """
    variables = list(variables_of(join))
    orders = {}
    for order in permutations(variables):
        orders.setdefault(added_in(join, plan_of_order(join, order)), order)
    return orders


def promising_orders(store, join, orders):
    """Return the list of those of the orders whose plan may have the least number of them all."""
    sheets = [sheet_of(store, join, plan_of_order(join, order), Bounded()) for order in orders]
    bounds = [sheet[1].get((), (0, 0)) for sheet in sheets]
    least = min([high for _, high in bounds])
    return [order for order, (low, _) in zip(orders, bounds) if low <= least]
