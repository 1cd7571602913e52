"""The rows that answer a question, closed questions that hold, and chances by going through the worlds."""

from rightchance.joining import joining_order, merged_columns, paired_rows, part_of, places_of, rows_of_atom
from rightchance.questions import variables_among
from rightchance.shares import ONE, ZERO, plus
from rightchance.values import sorted_rows
from rightchance.worlds import chance_of_world, count_worlds, world_at


def answers(places, question):
    """Return the tuple of the rows that answer the question, in ascending order."""
    found = []
    for join in question[1]:
        found.extend(answers_of_join(places, join))
    return tuple(sorted_rows(found))


def holds(places, question):
    """Tell if the closed question holds."""
    for join in question[1]:
        if answers_of_join(places, join):
            return True
    return False


def answers_of_join(places, join):
    """Return the list of the rows into which valuations turn the head while they turn the atoms into the places."""
    head, body = join
    left = joining_order([sheet_of_atom(places, atom) for atom in body])
    columns, rows = (), [()]
    while left and rows:
        other_columns, other_rows = left[0]
        left = left[1:]
        triples = paired_rows(columns, rows, other_columns, other_rows)
        merged = merged_columns([columns, other_columns])
        # Variables that are needed no more are dropped, so that there are no more rows than necessary.
        needed = merged_columns([variables_among(head)] + [sheet[0] for sheet in left])
        columns = tuple([x for x in merged if x in needed])
        rows = different_parts([row for row, _, _ in triples], places_of(columns, merged))
    return [row_of_head(head, columns, row) for row in rows]


def sheet_of_atom(places, atom):
    """Return the columns of an atom, and the list of the rows over them with which it becomes one of the places."""
    name, terms = atom
    pairs = rows_of_atom(terms, [row for table, row in places if table == name])
    return (variables_among(terms), [row for row, _ in pairs])


def different_parts(rows, places):
    """Return the list of the parts of the rows at these indexes, each once."""
    return list({part_of(row, places): True for row in rows})


def row_of_head(head, columns, row):
    """Return the row that the head becomes with the values of a row over the columns."""
    return tuple([row[columns.index(worth)] if kind == "var" else worth for kind, worth in head])


def plain_chance(store, question):
    """Return the chance of the closed question, found by going through the worlds."""
    # The other worlds lack a fact with the chance 1 or have one with the chance 0, so that their own chance is 0.
    unsure = tuple([fact for fact in store if fact[2] != ZERO and fact[2] != ONE])
    total = ZERO
    for n in range(count_worlds(unsure)):
        world = world_at(unsure, n)
        if holds(with_sure_places(store, world), question):
            total = plus(total, chance_of_world(unsure, world))
    return total


def with_sure_places(store, world):
    """Return the tuple of the places of a world and of all facts with the chance 1, in ascending order."""
    there = set(world)
    return tuple([(name, row) for name, row, chance in store if chance == ONE or (name, row) in there])
