"""How facts and other questions change the chance of a closed question, and the best worlds for it."""

from math import lcm

from rightchance.chance import chance_of
from rightchance.errors import NoChance, NoFact
from rightchance.families import facts_in
from rightchance.grounding import Ground
from rightchance.hierarchy import linked_groups
from rightchance.lots import lots_of_body
from rightchance.questions import variables_among
from rightchance.shares import compare_shares, make_share, plus, product_of
from rightchance.tallies import Tallies


def chance_if(store, question, name, row, there):
    """Return the chance of the closed question if the place is there (1) or missing (0)."""
    return Asking(store, question).chance_if(index_of(store, name, row), there)


def influence_of(store, question, name, row):
    """Return the influence of the place on the closed question."""
    return Asking(store, question).influence_of(index_of(store, name, row))


def index_of(store, name, row):
    """Return the index of the fact of a place, or raise NoFact if there is none."""
    for index, fact in enumerate(store):
        if fact[:2] == (name, row):
            return index
    raise NoFact("no fact of the store has the place")


class Asking:
    """A closed question over a store, for which facts are taken to be there or missing."""

    def __init__(self, store, question):
        ground = Ground(store)
        self.pool = ground.pool
        self.formula = ground.of_question(question)
        self.tallies = Tallies(ground.pool, store)

    def chance_if(self, index, there):
        """Return the chance of the question if the fact with the index is there (1) or missing (0)."""
        bit = 1 << index
        settled = self.pool.settled(self.formula, bit * there, bit * (1 - there))
        return self.tallies.chance_of_formula(settled)

    def influence_of(self, index):
        """Return the influence of the place of the fact with the index."""
        return less(self.chance_if(index, 1), self.chance_if(index, 0))


def less(share, other):
    """Return the difference of two shares, of which the first one is not less than the other one."""
    return make_share(share[0] * other[1] - other[0] * share[1], share[1] * other[1])


def ranked_places(store, question):
    """Return the tuple of the pairs of an influence and a place for all facts, the greatest influences first."""
    asking = Asking(store, question)
    pairs = [(asking.influence_of(index), fact[:2]) for index, fact in enumerate(store)]
    whole = 1
    for (_, d), _ in pairs:
        whole = lcm(whole, d)
    # Equal influences stay in the order of the store, which is that of the places.
    return tuple(sorted(pairs, key=lambda pair: -pair[0][0] * (whole // pair[0][1])))


def chance_of_both(store, question, other):
    """Return the chance that both closed questions hold."""
    # The chances of the two together count the worlds in which both hold twice, and those in which one holds once.
    together = plus(chance_of(store, question), chance_of(store, other))
    return less(together, chance_of(store, (0, question[1] + other[1])))


def chance_given(store, question, other):
    """Return the chance of the closed question given the other one."""
    n, d = chance_of(store, other)
    if n == 0:
        raise NoChance("the chance of the other question is 0")
    both = chance_of_both(store, question, other)
    return make_share(both[0] * d, both[1] * n)


def best_world(store, question):
    """Return a best world of the closed question, or None if there is none."""
    lots = [lot for _, body in question[1] for lot in best_lots_of_body(store, body)]
    if not lots:
        return None
    best = best_lot(store, lots)
    # A fact that is not needed is where it is more likely: in the world or not.
    return tuple([fact[:2] for index, fact in enumerate(store) if best >> index & 1 or not is_unlikely(fact[2])])


def best_lots_of_body(store, body):
    """Return a list of one lot of the join with this body that costs a world least, or of none if it has no lot."""
    together = 0
    for part in bodies_apart(body):
        lots = lots_of_body(store, part)
        if not lots:
            return []
        together = together | best_lot(store, lots)
    return [together]


def bodies_apart(body):
    """Part a body into a list of bodies that have no variable and no table in common, so that their lots have no fact.

    There may be far more lots of the body than lots of them all.
    """
    atoms = []
    for index, (name, terms) in enumerate(body):
        variables = [("var", x) for x in variables_among(terms)]
        atoms.append((index, tuple([("table", name)] + variables)))
    return [tuple([body[k] for k, _ in group]) for group in linked_groups(atoms)]


def best_lot(store, lots):
    """Return the one of the lots that costs a world least."""
    best, most = lots[0], odds_of(store, lots[0])
    for lot in lots[1:]:
        odds = odds_of(store, lot)
        if compare_shares(odds, most) > 0:
            best, most = lot, odds
    return best


def odds_of(store, lot):
    """Return the share of its chance that is left to a world if it takes all facts of the lot, too."""
    unlikely = [store[k][2] for k in facts_in(lot) if is_unlikely(store[k][2])]
    return product_of([(n, d - n) for n, d in unlikely])


def is_unlikely(chance):
    """Tell if the chance is less than 1/2."""
    return 2 * chance[0] < chance[1]
