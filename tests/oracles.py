"""What the document says about questions and plans, written down as plainly as can be, for the tests to compare with.

Everything here goes through all valuations, rows and worlds; it uses fractions
and nothing of the program.
"""

from fractions import Fraction
from itertools import combinations, product


def var(x):
    return ("var", x)


def value(v):
    return ("value", v)


def atom(name, *terms):
    """An atom; strings are variables, and integers are values."""
    return (name, tuple([var(term) if isinstance(term, str) else value(term) for term in terms]))


def closed(*atoms):
    return ((), tuple(atoms))


def schema_of(*joins):
    """The schema with just the tables of these joins."""
    columns = {name: len(terms) for _, body in joins for name, terms in body}
    return tuple(sorted(columns.items()))


def variables_in(terms):
    return sorted({worth for kind, worth in terms if kind == "var"})


def all_variables(join):
    return variables_in([term for _, terms in join[1] for term in terms])


def pair(fraction):
    return (fraction.numerator, fraction.denominator)


def values_in(places, join):
    """All values that a variable of the join may need."""
    found = [v for _, row in places for v in row]
    found.extend(worth for _, terms in join[1] for kind, worth in terms if kind == "value")
    return list(dict.fromkeys(found))


def row_under(terms, valuation):
    return tuple([valuation[worth] if kind == "var" else worth for kind, worth in terms])


def valuations_of(join, places):
    names = all_variables(join)
    for row in product(values_in(places, join), repeat=len(names)):
        yield dict(zip(names, row))


def row_order(row):
    return [(isinstance(v, str), v) for v in row]


def plain_answers(places, question):
    """The rows that answer, as [11] says it."""
    found = set()
    for join in question[1]:
        head, body = join
        for valuation in valuations_of(join, places):
            if all((name, row_under(terms, valuation)) in places for name, terms in body):
                found.add(row_under(head, valuation))
    return tuple(sorted(found, key=row_order))


def worlds_with_chances(store):
    """All worlds of the store as tuples of places, with their chances."""
    for size in range(len(store) + 1):
        for chosen in combinations(range(len(store)), size):
            chance = Fraction(1)
            for index, (_, _, (n, d)) in enumerate(store):
                chance *= Fraction(n, d) if index in chosen else 1 - Fraction(n, d)
            yield tuple([store[index][:2] for index in chosen]), chance


def chance_of_question(store, question):
    """The chance of a closed question, as [14] says it."""
    return sum((chance for world, chance in worlds_with_chances(store) if plain_answers(world, question)), Fraction(0))


def chance_of_join(store, join):
    return chance_of_question(store, (0, (join,)))


def plain_columns(join, plan):
    """The columns of a plan, as [20] says it."""
    if plan[0] == "scan":
        return variables_in(join[1][plan[1]][1])
    if plan[0] == "project":
        return [x for x in plain_columns(join, plan[2]) if x != plan[1]]
    return sorted({x for part in plan[1] for x in plain_columns(join, part)})


def indexes_in(plan):
    """The indexes of all scans in the plan, with repetitions."""
    if plan[0] == "scan":
        return [plan[1]]
    if plan[0] == "project":
        return indexes_in(plan[2])
    return [index for part in plan[1] for index in indexes_in(part)]


def parts_in(plan):
    """The plan and all plans in it."""
    inner = {"scan": (), "project": plan[2:], "join": plan[1]}[plan[0]]
    return [plan] + [deeper for part in inner for deeper in parts_in(part)]


def is_valid(join, plan):
    """Tell if a plan is valid, as [21] says it."""
    parts = parts_in(plan)
    if any(part[0] == "join" and len(part[1]) < 2 for part in parts):
        return False
    if sorted(indexes_in(plan)) != list(range(len(join[1]))):
        return False
    for part in parts:
        if part[0] == "project":
            outside = [terms for index, (_, terms) in enumerate(join[1]) if index not in indexes_in(part)]
            if part[1] not in plain_columns(join, part[2]) or any(var(part[1]) in terms for terms in outside):
                return False
    return plain_columns(join, plan) == []


def plain_number(store, join, plan, valuation, values):
    """The number that a plan gives to the row of its columns' values in the valuation, as [22] says it."""
    if plan[0] == "scan":
        name, terms = join[1][plan[1]]
        place = (name, row_under(terms, valuation))
        return Fraction(*{fact[:2]: fact[2] for fact in store}.get(place, (0, 1)))
    number = Fraction(1)
    if plan[0] == "join":
        for part in plan[1]:
            number *= plain_number(store, join, part, valuation, values)
        return number
    for v in values:
        number *= 1 - plain_number(store, join, plan[2], {**valuation, plan[1]: v}, values)
    return 1 - number


def plain_numbers(store, join, plan):
    """The pairs of a row and its number that is not 0, in ascending order."""
    columns = plain_columns(join, plan)
    values = values_in([fact[:2] for fact in store], join)
    numbers = {}
    for row in product(values, repeat=len(columns)):
        number = plain_number(store, join, plan, dict(zip(columns, row)), values)
        if number != 0:
            numbers[row] = pair(number)
    return tuple([(row, numbers[row]) for row in sorted(numbers, key=row_order)])


def number_of(store, join, plan):
    """The number of a valid plan, as a fraction."""
    return plain_number(store, join, plan, {}, values_in([fact[:2] for fact in store], join))


def unsafe_in(join, plan):
    """The variables whose projections are not safe, as [23] says it."""
    found = set()
    for part in parts_in(plan):
        if part[0] == "project":
            if not all(var(part[1]) in join[1][index][1] for index in indexes_in(part)):
                found.add(part[1])
    return tuple(sorted(found))


def is_hierarchical(join):
    """Tell if a join is hierarchical, as [25] says it."""
    atoms = {x: {k for k, (_, terms) in enumerate(join[1]) if var(x) in terms} for x in all_variables(join)}
    return all(a <= b or b <= a or not a & b for a, b in combinations(list(atoms.values()), 2))


def plan_of(join, order):
    """The plan of an order, as [27] says it."""
    at_hand = [("scan", index) for index in range(len(join[1]))]
    for x in order:
        used = [plan for plan in at_hand if x in plain_columns(join, plan)]
        new = ("project", x, used[0] if len(used) == 1 else ("join", tuple(used)))
        at_hand = [new if plan == used[0] else plan for plan in at_hand if plan == used[0] or plan not in used]
    return at_hand[0] if len(at_hand) == 1 else ("join", tuple(at_hand))


def plain_added(join, plan, above=()):
    """The added variables of the atoms in a plan, as a dict from the indexes to sets, as [38] says it."""
    if plan[0] == "scan":
        own = variables_in(join[1][plan[1]][1])
        return {plan[1]: {x for x in above if x not in own}}
    if plan[0] == "project":
        return plain_added(join, plan[2], above + plan[1:2])
    return {index: names for part in plan[1] for index, names in plain_added(join, part, above).items()}


def is_at_most(join, plan, other):
    """Tell if the number of the plan is at most that of the other one in every store, as [38] says it."""
    added, other_added = plain_added(join, plan), plain_added(join, other)
    return all(added[index] <= other_added[index] for index in added)


# Joins that are not hierarchical.
LINKED = (
    closed(atom("r", "x"), atom("s", "x", "y"), atom("t", "y")),
    closed(atom("r", "y"), atom("s", "x", "y"), atom("t", "x", "z")),
    closed(atom("r", "x", "y"), atom("s", "y", "z"), atom("t", "z", "x")),
    closed(atom("r", "x", "y"), atom("s", "y", "z"), atom("t", "z"), atom("u")),
    closed(atom("r", "x"), atom("s", "z", "x", "y"), atom("t", "y"), atom("u", "z")),
)


def random_join(source, most_atoms=4, names="xyz", most_columns=3, values=(1, 2, "a")):
    """A simple closed join with at least one atom."""
    body = []
    for name in "rstuvw"[:source.randint(1, most_atoms)]:
        terms = []
        for _ in range(source.randint(0, most_columns)):
            terms.append(value(source.choice(values)) if source.random() < 0.12 else var(source.choice(names)))
        body.append((name, tuple(terms)))
    return ((), tuple(body))


CHANCES = ((0, 1), (1, 1), (1, 2), (1, 3), (2, 3), (3, 7), (1, 10 ** 20), (5, 8))


def random_store(source, schema, most_facts, values=(1, 2, "a"), chances=CHANCES):
    """A store of the schema."""
    facts = {}
    for _ in range(source.randint(0, most_facts) if schema else 0):
        name, columns = source.choice(schema)
        facts[(name, tuple([source.choice(values) for _ in range(columns)]))] = source.choice(chances)
    places = sorted(facts, key=lambda place: (place[0], row_order(place[1])))
    return tuple([(name, row, facts[(name, row)]) for name, row in places])


def full_store(source, schema, most_facts, often=0.7, values=(1, 2), chances=((1, 2), (1, 3), (2, 3), (1, 1))):
    """A store of the schema in which most of the places over these values have a fact."""
    places = [(name, row) for name, columns in schema for row in product(values, repeat=columns)]
    chosen = [place for place in places if source.random() < often]
    if len(chosen) > most_facts:
        sampled = source.sample(chosen, most_facts)
        chosen = [place for place in chosen if place in sampled]
    return tuple([(name, row, source.choice(chances)) for name, row in chosen])


def random_plan(source, join):
    """A valid plan of a join with at least one atom, made from the scans upwards."""
    plans = [("scan", index) for index in range(len(join[1]))]
    while True:
        steps = []
        for place, plan in enumerate(plans):
            others = [index for other in plans[:place] + plans[place + 1:] for index in indexes_in(other)]
            outside = [term for index in others for term in join[1][index][1]]
            steps.extend((place, x) for x in plain_columns(join, plan) if var(x) not in outside)
        if not steps and len(plans) == 1:
            return plans[0]
        if steps and (len(plans) == 1 or source.random() < 0.5):
            place, x = source.choice(steps)
            plans[place] = ("project", x, plans[place])
        else:
            source.shuffle(plans)
            count = source.randint(2, len(plans))
            plans = [("join", tuple(plans[:count]))] + plans[count:]


def random_question(source, schema, width=None, most_joins=3, most_atoms=3):
    """A question that is valid for the schema."""
    width = source.randint(0, 2) if width is None else width
    joins = []
    for _ in range(source.randint(0, most_joins)):
        body = []
        for _ in range(source.randint(0, most_atoms)):
            name, columns = source.choice(schema)
            terms = [source.choice((var("x"), var("x"), var("y"), var("y"), var("z"), value(1), value("a")))
                     for _ in range(columns)]
            body.append((name, tuple(terms)))
        terms = [term for _, terms in body for term in terms] + [value(2), value("a")]
        joins.append((tuple([source.choice(terms) for _ in range(width)]), tuple(body)))
    return (width, tuple(joins))


def random_case(source, most_facts, width=0):
    """A store and a question that is valid for its schema."""
    schema = (("r", 2), ("s", 1), ("t", 0))
    if source.random() < 0.5:
        store = full_store(source, schema, most_facts, values=(1, 2, "a"))
    else:
        store = random_store(source, schema, most_facts)
    return store, random_question(source, schema, width)


def not_valid_plans():
    """Pairs of a simple closed join and a plan that is not valid for it, of each kind."""
    q, r, s, t = atom("q"), atom("r", "x"), atom("s", "x", "y"), atom("t", "x")
    a, b = ("scan", 0), ("scan", 1)

    def project(names, plan):
        for x in reversed(names):
            plan = ("project", x, plan)
        return plan

    def join_of(*plans):
        return ("join", plans)

    pairs = [(closed(), plan) for plan in (a, join_of(), project("x", a))]
    pairs.extend((closed(r), project("x", ("scan", k))) for k in (-1, 1, 10 ** 150, -10 ** 150))
    pairs.extend((closed(q, r), plan) for plan in (
        a, project("x", b), join_of(a, b), join_of(a, a, project("x", b)), join_of(a, project("x", join_of(b, b))),
        join_of(a, project("x", b), ("scan", 2)),
    ))
    pairs.extend((closed(r), plan) for plan in (
        a, project("xx", a), project("y", a), project("yx", a), project("xy", a), project("x", join_of(a)), join_of(a),
        join_of(project("x", a)), join_of(), project("x", join_of()),
    ))
    pairs.extend((closed(r, t), plan) for plan in (
        join_of(project("x", a), project("x", b)), project("x", join_of(project("x", a), b)), join_of(a, b),
    ))
    pairs.extend((closed(r, s), plan) for plan in (
        project("x", join_of(a, b)), join_of(project("x", a), project("xy", b)),
        project("x", join_of(a, project("xy", b))), project("y", join_of(project("x", a), project("x", b))),
    ))
    return pairs
