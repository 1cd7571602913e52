"""Judging plans without looking at the tables: the safe projections, the right plans, and stores that part."""

from rightchance.plans import atoms_beneath, check_plan, projections_of
from rightchance.questions import terms_under, variables_among, variables_of
from rightchance.shares import ONE
from rightchance.tables import make_store

HALF = (1, 2)


def unsafe_variables(join, plan):
    """Return the tuple of the variables whose projections are not safe, in alphabetical order."""
    check_plan(join, plan)
    return tuple(sorted([x for x, beneath in projections_of(plan) if atoms_without(join, x, beneath)]))


def atoms_without(join, variable, plan):
    """Return the list of the atoms beneath a plan in which the variable does not stand."""
    return [index for index in atoms_beneath(plan) if variable not in variables_among(join[1][index][1])]


def is_right(join, plan):
    """Tell if the plan is right."""
    return unsafe_variables(join, plan) == ()


def parting_store(schema, join, plan):
    """Return a store in which the number of the plan is not the chance of the join, or None if the plan is right."""
    check_plan(join, plan)
    for variable, beneath in projections_of(plan):
        without = atoms_without(join, variable, beneath)
        if without:
            return doubling_store(schema, join, variable, without[0])
    return None


def doubling_store(schema, join, variable, unsure):
    """Return a store in which a projection of the variable counts the atom with the index unsure twice.

    The variable has two values there, and each other variable has one. All facts
    have the chance 1 but that of the atom, which has 1/2. So the chance of the
    join is 1/2, too. A projection of the variable above the atom takes its chance
    for both values as if these were two facts, which makes 3/4 of it.
    """
    facts = {}
    for index, (name, terms) in enumerate(join[1]):
        for value in (1, 2):
            valuation = {x: value if x == variable else 1 for x in variables_of(join)}
            row = tuple([worth for _, worth in terms_under(valuation, terms)])
            facts[(name, row)] = HALF if index == unsure else ONE
    return make_store(schema, [(name, row, chance) for (name, row), chance in facts.items()])
