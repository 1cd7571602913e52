"""Circuits for closed questions: making right ones, judging any, and their numbers."""

from rightchance.families import all_facts, smallest_of, with_fact, without_fact
from rightchance.lots import family_of
from rightchance.ordering import bottom_up
from rightchance.shares import ONE, ZERO, any_of, plus, product_of, rest_of, times
from rightchance.splitting import step_of


def make_circuit(store, question):
    """Return a circuit that is right for the closed question and the store."""
    return Maker(store).circuit_for(family_of(store, question))


class Maker:
    """Makes circuits for families of lots of a store."""

    def __init__(self, store):
        self.store = store
        self.steps = {}

    def circuit_for(self, lots):
        """Return a circuit that is right for the family."""
        made = {}
        for family in bottom_up(lots, self.families_in):
            kind, fact, families = self.steps[family]
            circuits = tuple([made[inner] for inner in families])
            place = () if fact is None else self.store[fact][:2]
            if kind in ("any", "both"):
                made[family] = (kind, circuits)
            else:
                made[family] = (kind, *place, *circuits)
        return made[lots]

    def families_in(self, lots):
        """Return the families of which the one of the lots is put together."""
        self.steps[lots] = step_of(lots)
        return self.steps[lots][2]


def judge_circuit(store, question, circuit):
    """Tell if the circuit is one that is right for the closed question and the store."""
    nodes = nodes_of(circuit)
    if nodes is None:
        return False
    bits = {fact[:2]: 1 << index for index, fact in enumerate(store)}
    if not all([place is None or place in bits for _, place, _ in nodes]):
        return False
    facts = facts_of_nodes(nodes, bits)
    waiting = [(0, family_of(store, question))]
    while waiting:
        at, lots = waiting.pop()
        kind, place, inner = nodes[at]
        families = families_for(kind, bits.get(place, 0), [facts[k] for k in inner], lots)
        if families is None:
            return False
        waiting.extend(list(zip(inner, families)))
    return True


def nodes_of(circuit):
    """Return the list of all circuits in a circuit, itself first, or None if it is none.

    Each is told as its kind, its place or None, and the list of the indexes of
    the circuits directly in it, which are all greater than its own.
    """
    found = [circuit]
    nodes = []
    while len(nodes) < len(found):
        part = found[len(nodes)]
        inner = circuits_in(part)
        if inner is None:
            return None
        place = part[1:3] if part[0] in ("fact", "case") else None
        nodes.append((part[0], place, list(range(len(found), len(found) + len(inner)))))
        found.extend(inner)
    return nodes


def circuits_in(part):
    """Return the tuple of what stands in the places of circuits in a circuit, or None if it has not the form of one."""
    if not isinstance(part, tuple) or not part:
        return None
    kind = part[0]
    if kind in ("yes", "no"):
        return () if len(part) == 1 else None
    if kind in ("any", "both"):
        many = len(part) == 2 and isinstance(part[1], tuple) and len(part[1]) >= 2
        return part[1] if many else None
    if kind == "fact":
        return () if len(part) == 3 and has_place(part) else None
    if kind == "case":
        return part[3:] if len(part) == 5 and has_place(part) else None
    return None


def has_place(part):
    """Tell if a name and a tuple of integers and strings stand behind the first item of a tuple."""
    name, row = part[1:3]
    return isinstance(name, str) and isinstance(row, tuple) and all([isinstance(v, (int, str)) for v in row])


def facts_of_nodes(nodes, bits):
    """Return the list of the facts of each of the circuits, told like lots; bits tells those of the places."""
    facts = [bits.get(place, 0) for _, place, _ in nodes]
    for at in reversed(range(len(nodes))):
        facts[at] = all_facts([facts[at]] + [facts[k] for k in nodes[at][2]])
    return facts


def families_for(kind, bit, facts, lots):
    """Return the families for which the circuits in a circuit must be right so that it is right for the lots, or None.

    The bit is that of its own place, and facts tells those of the circuits in it.
    """
    if kind == "any":
        return families_for_any(facts, lots)
    if kind == "both":
        return families_for_both(facts, lots)
    if kind == "case":
        asked = any([lot & bit for lot in lots])
        return [with_fact(lots, bit), without_fact(lots, bit)] if asked else None
    needed = {"yes": (0,), "no": (), "fact": (bit,)}
    return [] if lots == needed[kind] else None


def families_for_any(facts, lots):
    """Return what families_for returns for "any"."""
    families = [tuple([lot for lot in lots if lot & ~own == 0]) for own in facts]
    if not are_apart(facts) or not all([family and 0 not in family for family in families]):
        return None
    # No lot is in two families, so each one is in one of them exactly if there are as many.
    return families if sum([len(family) for family in families]) == len(lots) else None


def families_for_both(facts, lots):
    """Return what families_for returns for "both"."""
    families = [tuple(sorted({lot & own for lot in lots})) for own in facts]
    if not are_apart(facts) or not all([family and 0 not in family for family in families]):
        return None
    if all_facts(lots) & ~all_facts(facts) or any([smallest_of(family) != family for family in families]):
        return None
    # Each lot is put together from one of each family, so they are all that are exactly if there are as many.
    count = 1
    for family in families:
        count = count * len(family)
    return families if count == len(lots) else None


def are_apart(facts):
    """Tell if no two of a list have a fact in common."""
    seen = 0
    for own in facts:
        if seen & own:
            return False
        seen = seen | own
    return True


def number_of_circuit(store, circuit):
    """Return the number of the circuit in the store."""
    nodes = nodes_of(circuit)
    chances = {fact[:2]: fact[2] for fact in store}
    numbers = [ZERO] * len(nodes)
    for at in reversed(range(len(nodes))):
        kind, place, inner = nodes[at]
        numbers[at] = number_of_node(kind, chances.get(place, ZERO), [numbers[k] for k in inner])
    return numbers[0]


def number_of_node(kind, chance, numbers):
    """Return the number of a circuit of this kind, with this chance of its place and these numbers of its circuits."""
    if kind == "any":
        return any_of(numbers)
    if kind == "both":
        return product_of(numbers)
    if kind == "case":
        there, missing = numbers
        return plus(times(chance, there), times(rest_of(chance), missing))
    plain = {"yes": ONE, "no": ZERO, "fact": chance}
    return plain[kind]
