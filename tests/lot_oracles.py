"""What the document says about lots, circuits and numbers of answers, written down as plainly as can be.

Sets of lots are sets of frozensets of places here.
"""

from fractions import Fraction
from itertools import product

from tests.oracles import plain_answers, row_order, row_under, valuations_of, worlds_with_chances


def place_order(place):
    return (place[0], row_order(place[1]))


def places_of(store):
    return [fact[:2] for fact in store]


def lots_of(store, question):
    """All lots of the closed question, as [29] says it."""
    places = places_of(store)
    lots = set()
    for join in question[1]:
        for valuation in valuations_of(join, places):
            lot = frozenset((name, row_under(terms, valuation)) for name, terms in join[1])
            if all(place in places for place in lot):
                lots.add(lot)
    return lots


def smallest(lots):
    return {lot for lot in lots if not any(other < lot for other in lots)}


def plain_lots(store, question):
    """The smallest lots in their order, as tuples of places in theirs."""
    found = [tuple(sorted(lot, key=place_order)) for lot in smallest(lots_of(store, question))]
    return tuple(sorted(found, key=lambda lot: [place_order(place) for place in lot]))


def inner_circuits(circuit):
    return {"any": circuit[1:], "both": circuit[1:], "case": (circuit[3:],)}.get(circuit[0], ((),))[0]


def places_in_circuit(circuit):
    own = {circuit[1:3]} if circuit[0] in ("fact", "case") else set()
    return own.union(*[places_in_circuit(inner) for inner in inner_circuits(circuit)])


def is_right_for(circuit, lots):
    """Tell if a circuit is right for a set of lots, as [30] says it."""
    kind = circuit[0]
    if kind == "yes":
        return lots == {frozenset()}
    if kind == "no":
        return lots == set()
    if kind == "fact":
        return lots == {frozenset([circuit[1:3]])}
    if kind == "case":
        place = circuit[1:3]
        there, missing = circuit[3:]
        return (
            any(place in lot for lot in lots)
            and is_right_for(there, smallest({lot - {place} for lot in lots}))
            and is_right_for(missing, {lot for lot in lots if place not in lot})
        )
    places = [places_in_circuit(inner) for inner in circuit[1]]
    if any(own & other for k, own in enumerate(places) for other in places[:k]):
        return False
    return (is_right_any if kind == "any" else is_right_both)(circuit[1], places, lots)


def is_right_any(circuits, places, lots):
    if any(sum(lot <= own for own in places) != 1 for lot in lots):
        return False
    for circuit, own in zip(circuits, places):
        parts = {lot for lot in lots if lot <= own}
        if not parts or frozenset() in parts or not is_right_for(circuit, parts):
            return False
    return True


def is_right_both(circuits, places, lots):
    families = [{lot & own for lot in lots} for own in places]
    for circuit, parts in zip(circuits, families):
        if not parts or frozenset() in parts or smallest(parts) != parts or not is_right_for(circuit, parts):
            return False
    return {frozenset().union(*parts) for parts in product(*families)} == lots


def plain_judgement(store, question, circuit):
    return is_right_for(circuit, smallest(lots_of(store, question)))


def plain_circuit_number(store, circuit):
    """The number of a circuit in a store, as [31] says it."""
    kind = circuit[0]
    if kind in ("yes", "no"):
        return Fraction(kind == "yes")
    numbers = [plain_circuit_number(store, inner) for inner in inner_circuits(circuit)]
    if kind in ("any", "both"):
        number = Fraction(1)
        for inner in numbers:
            number *= 1 - inner if kind == "any" else inner
        return 1 - number if kind == "any" else number
    chance = {fact[:2]: Fraction(*fact[2]) for fact in store}.get(circuit[1:3], Fraction(0))
    return chance if kind == "fact" else chance * numbers[0] + (1 - chance) * numbers[1]


def chances_by_worlds(store, question):
    """The dict from the rows that answer in some world to their chances, as [14] says it."""
    chances = {}
    for world, chance in worlds_with_chances(store):
        for row in plain_answers(world, question):
            chances[row] = chances.get(row, 0) + chance
    return chances


def shares_by_worlds(store, question):
    """The dict from numbers of answers to their shares, as [40] says it."""
    shares = {}
    for world, chance in worlds_with_chances(store):
        count = len(plain_answers(world, question))
        shares[count] = shares.get(count, 0) + chance
    return shares
