"""The smallest lots of a closed question: the places that together are enough for it to hold."""

from rightchance.families import facts_in, smallest_of
from rightchance.joining import joining_order, merged_columns, paired_rows, part_of, places_of, rows_of_atom
from rightchance.questions import variables_among


def smallest_lots(store, question):
    """Return the tuple of the smallest lots of the closed question, in ascending order."""
    # The facts of a store are in ascending order of their places, and so are their indexes.
    lots = sorted([facts_in(lot) for lot in family_of(store, question)])
    return tuple([tuple([store[k][:2] for k in facts]) for facts in lots])


def family_of(store, question):
    """Return the family of the smallest lots of the closed question."""
    return smallest_of([lot for _, body in question[1] for lot in lots_of_body(store, body)])


def lots_of_body(store, body):
    """Return the family of the smallest lots of a join with this body."""
    left = joining_order([lot_sheet(store, atom) for atom in body])
    sheet = ((), {(): (0,)})
    while left:
        other = left[0]
        left = left[1:]
        sheet = joined_lots(sheet, other, merged_columns([columns for columns, _ in left]))
    return sheet[1].get((), ())


def lot_sheet(store, atom):
    """Return the columns of an atom, and the dict from the rows over them to the lot of the fact that it becomes."""
    name, terms = atom
    bits = {row: 1 << index for index, (table, row, _) in enumerate(store) if table == name}
    return (variables_among(terms), {row: bits[whole] for row, whole in rows_of_atom(terms, list(bits))})


def joined_lots(sheet, other, needed):
    """Return the columns of two sheets that are needed further on, and the dict from the rows over them to families.

    The first sheet has families for its rows, too; the other one is that of an
    atom. Of the lots that go with the same row, one with all facts of another
    one can be left out at once: what comes to both later is the same.
    """
    columns, families = sheet
    other_columns, bits = other
    merged = merged_columns([columns, other_columns])
    kept = tuple([x for x in merged if x in needed])
    places = places_of(kept, merged)
    found = {}
    for row, left, right in paired_rows(columns, list(families), other_columns, list(bits)):
        found.setdefault(part_of(row, places), []).extend([lot | bits[right] for lot in families[left]])
    return (kept, {row: smallest_of(lots) for row, lots in found.items()})
