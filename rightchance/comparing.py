"""Plans compared: which numbers are at most those of another plan in every store, and the least plans."""

from rightchance.bounds import orders_by_added, plan_of_order
from rightchance.judging import doubling_store
from rightchance.plans import added_in, check_plan
from rightchance.questions import variables_of


def added_variables(join, plan):
    """Return a tuple with the tuple of the added variables of each atom, in the order of the body."""
    check_plan(join, plan)
    return added_in(join, plan)


def compare_plans(join, plan, other):
    """Return "same", "below", "above" or "apart", as the plan compares with the other one."""
    added, other_added = added_variables(join, plan), added_variables(join, other)
    at_most = surplus_of(added, other_added) is None
    at_least = surplus_of(other_added, added) is None
    if at_most:
        return "same" if at_least else "below"
    return "above" if at_least else "apart"


def surplus_of(added, other_added):
    """Return the first pair of an atom's index and a variable that is added to it only in the first ones, or None."""
    for index, (names, other_names) in enumerate(zip(added, other_added)):
        for x in names:
            if x not in other_names:
                return (index, x)
    return None


def store_above(schema, join, plan, other):
    """Return a store in which the number of the plan is greater than that of the other one, or None."""
    surplus = surplus_of(added_variables(join, plan), added_variables(join, other))
    if surplus is None:
        return None
    # Of the two, only the plan has a projection of this variable above this atom, so only it counts the atom twice.
    index, variable = surplus
    return doubling_store(schema, join, variable, index)


def least_plans(join):
    """Return the tuple of the least plans of the join, in the order of their orders."""
    orders = [(added_bits(join, added), order) for added, order in orders_by_added(join).items()]
    least = [order for bits, order in orders if not any([is_below(others, bits) for others, _ in orders])]
    return tuple([plan_of_order(join, order) for order in least])


def added_bits(join, added):
    """Return the added variables of all atoms as the bits of an integer."""
    names = list(variables_of(join))
    return sum([1 << (index * len(names) + names.index(x)) for index, part in enumerate(added) for x in part])


def is_below(bits, others):
    """Tell if the bits are all among the other ones, which are more."""
    return bits != others and bits | others == others
