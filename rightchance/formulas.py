"""Formulas of facts: of some inner formulas any one holds, or both and all of them hold.

A pool numbers its formulas, equal ones alike. Each has a greater number than
the formulas in it.
"""

from rightchance.families import all_facts, facts_in

NO = 0
YES = 1
# What "any" and "both" are with no formula in them, and with one in them that makes the others needless.
WITH_NONE = {"any": 0, "both": 1}
WITH_ALL = {"any": 1, "both": 0}


class Formulas:
    """A pool of formulas; for each number the kind, the numbers of the inner formulas, and the facts as bits."""

    def __init__(self):
        self.kinds = ["no", "yes"]
        self.inner = [(), ()]
        self.facts = [0, 0]
        self.numbers = {}

    def number_of(self, kind, inner, facts):
        """Return the number of a formula, which is a new one if there is none like it."""
        key = (kind, inner, facts)
        if key not in self.numbers:
            self.numbers[key] = len(self.kinds)
            self.kinds.append(kind)
            self.inner.append(inner)
            self.facts.append(facts)
        return self.numbers[key]

    def of_fact(self, index):
        """Return the formula that holds if the fact with this index is there."""
        return self.number_of("fact", (), 1 << index)

    def of_lots(self, lots):
        """Return the formula that holds if all facts of one of the lots are there."""
        return self.merged("any", [self.merged("both", [self.of_fact(k) for k in facts_in(lot)]) for lot in lots])

    def merged(self, kind, formulas):
        """Return the formula that holds if any of the formulas holds, or if all of them hold."""
        found = {}
        for formula in formulas:
            # What is in a formula of the same kind may as well stand beside it.
            parts = self.inner[formula] if self.kinds[formula] == kind else (formula,)
            for part in parts:
                found[part] = True
        found.pop(WITH_NONE[kind], None)
        if WITH_ALL[kind] in found:
            return WITH_ALL[kind]
        # A formula of the other kind in which one of these stands makes no difference beside it.
        kept = sorted([part for part in found if not any([inner in found for inner in self.inner[part]])])
        if len(kept) < 2:
            return kept[0] if kept else WITH_NONE[kind]
        return self.number_of(kind, tuple(kept), all_facts([self.facts[part] for part in kept]))

    def settled(self, formula, there, missing):
        """Return the formula for the case that some facts, told as bits, are there and some others are missing."""
        known = {}
        for part in self.parts_with([formula], there | missing):
            if self.kinds[part] == "fact":
                known[part] = YES if self.facts[part] & there else NO
            else:
                known[part] = self.merged_with(part, known)
        return known.get(formula, formula)

    def merged_with(self, formula, known):
        """Return an "any" or "both" with what the dict known has for the formulas directly in it, if it has them."""
        return self.merged(self.kinds[formula], [known.get(inner, inner) for inner in self.inner[formula]])

    def replaced(self, formula, part, other):
        """Return the formula with another one in the place of a part of it whose facts stand in it only there."""
        known = {part: other}
        for outer in self.parts_with([formula], self.facts[part]):
            if outer > part:
                known[outer] = self.merged_with(outer, known)
        return known.get(formula, formula)

    def parts_apart(self, formulas):
        """Return the list of all parts that stand in the formulas more than once, and whose facts only in them.

        A formula that is given twice stands there twice, too. Facts are left out.
        """
        parts = self.parts_with(formulas, -1)
        uses = self.uses_in(parts)
        for formula in formulas:
            uses[formula] = uses.get(formula, 0) + 1
        often = [part for part in parts if uses[part] > 1 and self.kinds[part] != "fact"]
        return [part for part in often if self.stands_apart(part, uses)]

    def uses_in(self, parts):
        """Return the dict from each formula that is directly in some of the parts to their number."""
        uses = {}
        for part in parts:
            for inner in self.inner[part]:
                uses[inner] = uses.get(inner, 0) + 1
        return uses

    def stands_apart(self, part, uses):
        """Tell if what is in the part is in nothing else; uses tells in how many formulas each one is directly."""
        inside = self.uses_in(self.parts_with([part], -1))
        return all([count == uses[inner] for inner, count in inside.items()])

    def parts_with(self, formulas, facts):
        """Return the list of all formulas among these and in them that have any of the facts, in ascending order."""
        seen = {}
        waiting = list(formulas)
        while waiting:
            part = waiting.pop()
            if part not in seen and self.facts[part] & facts:
                seen[part] = True
                waiting.extend(self.inner[part])
        return sorted(seen)
