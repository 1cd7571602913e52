"""The chances of questions, and the shares of the numbers of their answers."""

from rightchance.grounding import Ground
from rightchance.plainly import answers
from rightchance.questions import put_row
from rightchance.shares import ZERO, plus
from rightchance.tallies import Tallies


def chance_of(store, question):
    """Return the chance of the closed question."""
    ground = Ground(store)
    return Tallies(ground.pool, store).chance_of_formula(ground.of_question(question))


def chances_of(store, question):
    """Return the tuple of the pairs of a row and its chance that is not 0, in ascending order of the rows."""
    ground = Ground(store)
    tallies = Tallies(ground.pool, store)
    pairs = []
    for row in answers(places_in(store), question):
        chance = tallies.chance_of_formula(ground.of_question(put_row(question, row)))
        if chance != ZERO:
            pairs.append((row, chance))
    return tuple(pairs)


def places_in(store):
    """Return the tuple of the places of all facts of the store."""
    return tuple([fact[:2] for fact in store])


def counts_of(store, question):
    """Return the tuple of the pairs of a number of answers and its share that is not 0, in ascending order."""
    ground = Ground(store)
    formulas = [ground.of_question(put_row(question, row)) for row in answers(places_in(store), question)]
    shares = Tallies(ground.pool, store).counts_of_formulas(formulas)
    return tuple([(k, share) for k, share in enumerate(shares) if share != ZERO])


def mean_of(store, question):
    """Return the mean of the number of answers."""
    mean = ZERO
    for _, chance in chances_of(store, question):
        mean = plus(mean, chance)
    return mean
