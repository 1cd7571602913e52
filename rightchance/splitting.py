"""How a family of lots is put together from simpler ones."""

from rightchance.families import all_facts, facts_in, linked_lots, linked_places, size_of, with_fact, without_fact


def step_of(lots):
    """Return the kind of the circuit for the family, the index of its fact or None, and the families of its circuits.

    The families of a "case" are first that for the fact being there, then that
    for its being missing.
    """
    if not lots:
        return ("no", None, ())
    if lots == (0,):
        return ("yes", None, ())
    parts = [tuple(group) for group in linked_lots(lots)]
    if len(parts) > 1:
        return ("any", None, tuple(parts))
    facts = facts_in(all_facts(lots))
    if len(facts) == 1:
        return ("fact", facts[0], ())
    parts = factors_of(lots)
    if len(parts) > 1:
        return ("both", None, tuple(parts))
    fact = fact_to_ask(lots, lot_counts(lots))
    bit = 1 << fact
    return ("case", fact, (with_fact(lots, bit), without_fact(lots, bit)))


def facts_beside(lots):
    """Return the dict from the index of each fact to all facts that are in a lot with it, itself among them."""
    beside = {}
    for lot in lots:
        for fact in facts_in(lot):
            beside[fact] = beside.get(fact, 0) | lot
    return beside


def factors_of(lots):
    """Return the list of families so that the lots are all that are put together from one lot of each of them.

    A family that does not fall apart in this way is returned alone.
    """
    everything = all_facts(lots)
    beside = facts_beside(lots)
    # Facts of two factors are together in some lot, so facts that are in no lot together belong to the same one.
    apart = [everything & ~beside[fact] | 1 << fact for fact in beside]
    found = []
    rest = everything
    for group in linked_places(apart):
        facts = all_facts([apart[k] for k in group])
        if is_factor(lots, facts):
            found.append(facts)
            rest = rest & ~facts
    return [tuple(sorted({lot & facts for lot in lots})) for facts in found + [rest] if facts]


def is_factor(lots, facts):
    """Tell if the lots are all that are put together from a part with only these facts and one without them."""
    inside = {lot & facts for lot in lots}
    outside = {lot & ~facts for lot in lots}
    return len(inside) * len(outside) == len(lots)


def lot_counts(lots):
    """Return the dict from the index of each fact to the number of lots that it is in."""
    counts = {}
    for lot in lots:
        for fact in facts_in(lot):
            counts[fact] = counts.get(fact, 0) + 1
    return counts


def fact_to_ask(linked, weights):
    """Return the index of a fact whose being there or missing makes things simpler that are linked by common facts.

    Each of the things is told as its facts. The dict weights tells how often a
    fact stands in them; one that stands there often is asked first.
    """
    seen = shared = 0
    for facts in linked:
        # A fact of one thing alone does not link it to the others.
        shared = shared | seen & facts
        seen = seen | facts
    cut = thin_cut(shared, facts_beside(linked), len(linked).bit_length())
    return max(facts_in(cut) if cut else list(weights), key=lambda fact: (weights[fact], -fact))


def thin_cut(shared, beside, most):
    """Return at most so many of the shared facts whose loss parts the others into halves of like size, or 0.

    Circuits stay small if what is left falls apart, best into halves.
    """
    far = facts_in(layers_from(facts_in(shared)[0], shared, beside)[-1])[0]
    layers = layers_from(far, shared, beside)
    sizes = [size_of(layer) for layer in layers]
    total = sum(sizes)
    best = (most, 0, 0)
    before = 0
    for layer, size in zip(layers, sizes):
        less = min(before, total - before - size)
        if 4 * less >= total - size and (size, -less, layer) < best:
            best = (size, -less, layer)
        before += size
    return best[2]


def layers_from(fact, shared, beside):
    """Return the list of layers: the fact, the shared facts in a lot with it, further ones in a lot with these, ..."""
    layers = [1 << fact]
    seen = 1 << fact
    while layers[-1]:
        reached = all_facts([beside[k] for k in facts_in(layers[-1])]) & shared
        layers.append(reached & ~seen)
        seen = seen | reached
    return layers[:-1]
