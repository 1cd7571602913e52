"""Formulas for closed questions over the facts of a store."""

from rightchance.formulas import Formulas
from rightchance.hierarchy import linked_groups
from rightchance.lots import lot_sheet, lots_of_body
from rightchance.questions import body_under, variables_among


class Ground:
    """Makes formulas for the closed questions over a store, in a pool of their own."""

    def __init__(self, store):
        self.store = store
        self.pool = Formulas()
        self.known = {}

    def of_question(self, question):
        """Return the formula that holds in the worlds in which the closed question holds."""
        return self.pool.merged("any", [self.of_body(body) for _, body in question[1]])

    def of_body(self, body):
        """Return the formula of a join with this body."""
        if body not in self.known:
            groups = linked_groups([(k, variables_among(terms)) for k, (_, terms) in enumerate(body)])
            parts = [tuple([body[k] for k, _ in group]) for group in groups]
            self.known[body] = self.pool.merged("both", [self.of_part(part) for part in parts])
        return self.known[body]

    def of_part(self, body):
        """Return the formula of a join with this body, whose atoms are linked by variables."""
        variables = [variables_among(terms) for _, terms in body]
        shared = [x for x in variables[0] if all([x in names for names in variables])]
        if len(body) == 1 or not shared:
            return self.pool.of_lots(lots_of_body(self.store, body))
        # Each value makes a join of its own, so that there need not be a lot for each way to go on from it.
        x = shared[0]
        bodies = [body_under({x: value}, body) for value in self.values_of(x, body)]
        return self.pool.merged("any", [self.of_body(inner) for inner in bodies])

    def values_of(self, x, body):
        """Return the list of the values that the variable can have in the body, in which it stands in each atom."""
        sheets = [lot_sheet(self.store, atom) for atom in body]
        lists = [list({row[columns.index(x)]: True for row in bits}) for columns, bits in sheets]
        return min(lists, key=len)
