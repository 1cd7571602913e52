"""Rows of values over columns, and how the rows of several atoms or plans fit together.

The columns are a tuple of variables in alphabetical order; a row over them has
a value for each.
"""

from rightchance.questions import valuation_of, variables_among


def rows_of_atom(terms, rows):
    """Return the pairs of a row over the variables of the terms and the one of the rows that they become with it."""
    columns = variables_among(terms)
    pairs = []
    for row in rows:
        valuation = valuation_of(terms, row)
        if valuation is not None:
            pairs.append((tuple([valuation[x] for x in columns]), row))
    return pairs


def merged_columns(column_lists):
    """Return the tuple of all columns of several tuples, in alphabetical order."""
    return tuple(sorted({x for columns in column_lists for x in columns}))


def places_of(wanted, columns):
    """Return the list of the indexes of the wanted columns among the columns."""
    return [columns.index(x) for x in wanted]


def part_of(row, places):
    """Return the tuple of the values of a row at these indexes."""
    return tuple([row[k] for k in places])


def paired_rows(columns, rows, other_columns, other_rows):
    """Return the rows over the columns of both that have a part among the rows and among the other ones.

    They are told as triples: the row, and its two parts.
    """
    common = [x for x in columns if x in other_columns]
    keys, other_keys = places_of(common, columns), places_of(common, other_columns)
    partners = {}
    for row in other_rows:
        partners.setdefault(part_of(row, other_keys), []).append(row)
    merged = places_of(merged_columns([columns, other_columns]), columns + other_columns)
    triples = []
    for row in rows:
        for other in partners.get(part_of(row, keys), []):
            triples.append((part_of(row + other, merged), row, other))
    return triples


def joining_order(sheets):
    """Return the list of the sheets, pairs of columns and rows, in an order in which they are joined quickly.

    Those that share a column with what is joined so far come first, so that
    rows are dropped before they are multiplied; among them the short ones.
    """
    left = sorted(sheets, key=row_count)
    ordered = []
    known = ()
    while left:
        linked = [place for place, (columns, _) in enumerate(left) if any([x in known for x in columns])]
        chosen = left.pop(linked[0] if linked else 0)
        ordered.append(chosen)
        known = merged_columns([known, chosen[0]])
    return ordered


def row_count(sheet):
    """Return the number of rows of a sheet."""
    return len(sheet[1])
