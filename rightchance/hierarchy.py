"""Hierarchical joins, the clashes of others, and right plans."""

from itertools import combinations

from rightchance.errors import NoPlan
from rightchance.questions import variables_among, variables_of


def atoms_of(join, variable):
    """Return the tuple of the indexes of the atoms in which the variable stands, in ascending order."""
    return tuple([index for index, (_, terms) in enumerate(join[1]) if ("var", variable) in terms])


def is_hierarchical(join):
    """Tell if the join is hierarchical."""
    return clash_of(join) is None


def clash_of(join):
    """Return the clash of the join, or None if it is hierarchical."""
    atoms = {x: atoms_of(join, x) for x in variables_of(join)}
    for x, y in combinations(list(atoms), 2):
        only, other_only = missing_in(atoms[x], atoms[y]), missing_in(atoms[y], atoms[x])
        both = [index for index in atoms[x] if index in atoms[y]]
        if only and both and other_only:
            return (x, y, only[0], both[0], other_only[0])
    return None


def missing_in(indexes, others):
    """Return the list of those of the indexes that are not among the other ones."""
    return [index for index in indexes if index not in others]


def right_plan(join):
    """Return a valid plan that is right, or raise NoPlan if there is none."""
    if not join[1]:
        raise NoPlan("a join without atoms has no valid plan")
    variables = [variables_among(terms) for _, terms in join[1]]
    return plan_of_atoms(list(enumerate(variables)))


def plan_of_atoms(atoms):
    """Return the right plan of some atoms, told as pairs of their index and the variables not projected above them."""
    groups = linked_groups(atoms)
    if len(groups) > 1:
        return ("join", tuple([plan_of_atoms(group) for group in groups]))
    index, variables = atoms[0]
    if not variables:
        return ("scan", index)
    shared = [x for x in variables if all([x in others for _, others in atoms])]
    if not shared:
        raise NoPlan("atoms are linked by variables, but no variable stands in all of them")
    plan = plan_of_atoms([(k, tuple([x for x in others if x not in shared])) for k, others in atoms])
    for variable in shared[::-1]:
        plan = ("project", variable, plan)
    return plan


def linked_groups(atoms):
    """Part atoms, told as pairs of an index and variables, into groups that have no variable in common."""
    groups = []
    for atom in atoms:
        linked = [group for group in groups if any([x in atom[1] for _, others in group for x in others])]
        groups = [group for group in groups if group not in linked]
        groups.append([inner for group in linked for inner in group] + [atom])
    return sorted([sorted(group) for group in groups])
