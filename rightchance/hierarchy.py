"""Right plans for the joins that have one."""

from rightchance.errors import NoPlan
from rightchance.questions import variables_among


def right_plan(join):
    """Return a valid plan that is right, or raise NoPlan if there is none."""
    return plan_by_parts(join)


def plan_by_parts(join):
    """Return what right_plan returns; a name of its own, so that another file can have a right_plan, too."""
    if not join[1]:
        raise NoPlan("a join without atoms has no valid plan")
    variables = [variables_among(terms) for _, terms in join[1]]
    return plan_of_atoms(list(enumerate(variables)))


def plan_of_atoms(atoms):
    """Return the right plan of some atoms, told as pairs of their index and the variables not projected above them."""
    groups = linked_groups(atoms)
    if len(groups) > 1:
        return ("join", tuple([plan_of_atoms(group) for group in groups]))
    index, variables = atoms[0]
    if not variables:
        return ("scan", index)
    shared = [x for x in variables if all([x in others for _, others in atoms])]
    if not shared:
        raise NoPlan("atoms are linked by variables, but no variable stands in all of them")
    plan = plan_of_atoms([(k, tuple([x for x in others if x not in shared])) for k, others in atoms])
    for variable in shared[::-1]:
        plan = ("project", variable, plan)
    return plan


def linked_groups(atoms):
    """Part atoms, told as pairs of an index and variables, into groups that have no variable in common."""
    groups = []
    for atom in atoms:
        linked = [group for group in groups if any([x in atom[1] for _, others in group for x in others])]
        groups = [group for group in groups if group not in linked]
        groups.append([inner for group in linked for inner in group] + [atom])
    return sorted([sorted(group) for group in groups])
