"""Tallies: the shares of the worlds in which none, one, two, ... of some formulas hold.

A tally is a triple (shares, whole, facts): shares is a list of integers, of
which each counts parts of the whole, and the whole is the product of the
denominators of the chances of the facts, which are told as bits. So tallies
are put together without looking for common divisors, which takes long where
there are many facts.
"""

from rightchance.families import all_facts, facts_in, linked_places
from rightchance.formulas import NO, YES
from rightchance.ordering import bottom_up
from rightchance.shares import make_share
from rightchance.splitting import fact_to_ask


class Tallies:
    """Finds the tallies of the formulas of a pool over a store, and keeps them."""

    def __init__(self, pool, store):
        self.pool = pool
        self.fact_chances = [chance for _, _, chance in store]
        self.there = sum([1 << k for k, (n, d) in enumerate(self.fact_chances) if n == d])
        self.missing = sum([1 << k for k, (n, _) in enumerate(self.fact_chances) if n == 0])
        self.steps = {}
        self.known = {}

    def chance_of_formula(self, formula):
        """Return the chance that the formula holds."""
        return self.counts_of_formulas([formula])[1]

    def counts_of_formulas(self, formulas):
        """Return the list of the chances that none, one, two, ... and all of the formulas hold."""
        settled = [self.pool.settled(formula, self.there, self.missing) for formula in formulas]
        group = tuple(sorted(settled))
        for inner in bottom_up(group, self.groups_in):
            if inner not in self.known:
                self.known[inner] = self.tally_of(inner)
        shares, whole, _ = self.known[group]
        return [make_share(share, whole) for share in shares]

    def groups_in(self, group):
        """Return the list of the groups of formulas from whose tallies that of the group is put together."""
        if group in self.known:
            return []
        self.steps[group] = self.step_of(group)
        return self.steps[group][1]

    def step_of(self, group):
        """Return the kind of what puts the tally of the group together, and the list of the groups for it.

        For a "case" these are the part that is asked, and the groups for its
        holding and for its not holding.
        """
        kind = self.pool.kinds[group[0]] if len(group) == 1 else "beside"
        if kind in ("no", "yes", "fact"):
            return (kind, [])
        formulas = group if kind == "beside" else self.pool.inner[group[0]]
        linked = linked_places([self.pool.facts[formula] for formula in formulas])
        if len(linked) == 1:
            part = self.part_to_ask(formulas)
            return ("case", [(part,), self.group_with(group, part, YES), self.group_with(group, part, NO)])
        parts = [tuple([formulas[k] for k in places]) for places in linked]
        return (kind, parts if kind == "beside" else [(self.pool.merged(kind, inner),) for inner in parts])

    def group_with(self, group, part, other):
        """Return the group with another formula in the place of a part."""
        return tuple(sorted([self.pool.replaced(formula, part, other) for formula in group]))

    def part_to_ask(self, formulas):
        """Return a part of linked formulas that makes them simpler if it is known to hold or not to hold."""
        apart = self.pool.parts_apart(formulas)
        if apart:
            return apart[-1]
        facts = [self.pool.facts[formula] for formula in formulas]
        return self.pool.of_fact(fact_to_ask(facts, self.lot_counts(formulas)))

    def lot_counts(self, formulas):
        """Return the dict from the index of each fact of the formulas to the number of their lots that it is in.

        Lots are counted without a look at which are equal or have all facts of another one.
        """
        parts = self.pool.parts_with(formulas, -1)
        lots = {}
        for part in parts:
            counts = [lots[inner] for inner in self.pool.inner[part]]
            lots[part] = sum(counts) if self.pool.kinds[part] == "any" else multiplied(counts)
        weights = {part: 0 for part in parts}
        for formula in formulas:
            weights[formula] += 1
        for part in parts[::-1]:
            for inner in self.pool.inner[part]:
                beside = 1 if self.pool.kinds[part] == "any" else lots[part] // lots[inner]
                weights[inner] += weights[part] * beside
        facts = [part for part in parts if self.pool.kinds[part] == "fact"]
        return {facts_in(self.pool.facts[part])[0]: weights[part] for part in facts}

    def tally_of(self, group):
        """Return the tally of a group; those of the groups in its step are known."""
        kind, groups = self.steps[group]
        tallies = [self.known[inner] for inner in groups]
        if kind == "case":
            return self.tally_of_case(*tallies)
        if kind == "fact":
            facts = self.pool.facts[group[0]]
            n, d = self.fact_chances[facts_in(facts)[0]]
            return ([d - n, n], d, facts)
        if kind in ("no", "yes"):
            return ([1, 0] if kind == "no" else [0, 1], 1, 0)
        return joined_tally(kind, tallies)

    def tally_of_case(self, asked, there, missing):
        """Return the tally that has one of two tallies if what is asked holds, and the other one if not."""
        scale = self.whole_of(missing[2] & ~there[2])
        other_scale = self.whole_of(there[2] & ~missing[2])
        rest, holds = asked[0][0] * other_scale, asked[0][1] * scale
        shares = [holds * one + rest * other for one, other in zip(there[0], missing[0])]
        return (shares, asked[1] * scale * there[1], asked[2] | there[2] | missing[2])

    def whole_of(self, facts):
        """Return the product of the denominators of the chances of facts."""
        return multiplied([self.fact_chances[k][1] for k in facts_in(facts)])


def joined_tally(kind, tallies):
    """Return the tally of formulas that have no fact in common, put together to "any", "both" or "beside"."""
    whole = multiplied([tally[1] for tally in tallies])
    facts = all_facts([tally[2] for tally in tallies])
    if kind == "any":
        none = multiplied([tally[0][0] for tally in tallies])
        return ([none, whole - none], whole, facts)
    if kind == "both":
        everyone = multiplied([tally[0][1] for tally in tallies])
        return ([whole - everyone, everyone], whole, facts)
    shares = [1]
    for tally in tallies:
        shares = shares_beside(shares, tally[0])
    return (shares, whole, facts)


def shares_beside(shares, others):
    """Return the shares of the sums of two numbers with these shares."""
    sums = [0] * (len(shares) + len(others) - 1)
    for number, share in enumerate(shares):
        for other_number, other in enumerate(others):
            sums[number + other_number] += share * other
    return sums


def multiplied(numbers):
    """Return the product of a list of integers."""
    result = 1
    for number in numbers:
        result = result * number
    return result
