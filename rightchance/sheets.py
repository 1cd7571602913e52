"""Sheets: the numbers that a plan gives to the rows over its columns.

A sheet is a pair of columns and a dict from rows over them to their numbers;
rows with the number 0 are not in it. How the numbers are made is the matter of
the reckoning that is passed, an object of a class of reckoning.py.
"""

from rightchance.joining import joining_order, merged_columns, paired_rows, part_of, places_of, rows_of_atom
from rightchance.questions import variables_among
from rightchance.shares import ZERO


def sheet_of(store, join, plan, reckoning):
    """Return the sheet of a part of a valid plan."""
    if plan[0] == "scan":
        return scan_sheet(store, join[1][plan[1]], reckoning)
    if plan[0] == "project":
        return projected_sheet(sheet_of(store, join, plan[2], reckoning), plan[1], reckoning)
    return joined_sheet([sheet_of(store, join, part, reckoning) for part in plan[1]], reckoning)


def sheets_of_parts(store, join, plan, reckoning):
    """Return the list of the pairs of a part and its sheet for all parts of a part of a valid plan, itself the last."""
    if plan[0] == "scan":
        return [(plan, scan_sheet(store, join[1][plan[1]], reckoning))]
    inner = [plan[2]] if plan[0] == "project" else plan[1]
    lists = [sheets_of_parts(store, join, part, reckoning) for part in inner]
    sheets = [pairs[-1][1] for pairs in lists]
    if plan[0] == "project":
        sheet = projected_sheet(sheets[0], plan[1], reckoning)
    else:
        sheet = joined_sheet(sheets, reckoning)
    return [pair for pairs in lists for pair in pairs] + [(plan, sheet)]


def scan_sheet(store, atom, reckoning):
    """Return the sheet of a scan of the atom."""
    name, terms = atom
    chances = {row: chance for table, row, chance in store if table == name and chance != ZERO}
    numbers = {row: reckoning.of_chance(chances[whole]) for row, whole in rows_of_atom(terms, list(chances))}
    return (variables_among(terms), numbers)


def joined_sheet(sheets, reckoning):
    """Return the sheet of a join of plans with these sheets."""
    columns, numbers = (), {(): reckoning.start()}
    for other_columns, others in joining_order(sheets):
        triples = paired_rows(columns, list(numbers), other_columns, list(others))
        numbers = {row: reckoning.of_both(numbers[left], others[right]) for row, left, right in triples}
        columns = merged_columns([columns, other_columns])
    return (columns, numbers)


def projected_sheet(sheet, variable, reckoning):
    """Return the sheet of the projection that takes the variable away from a plan with this sheet."""
    columns, numbers = sheet
    rest = tuple([x for x in columns if x != variable])
    places = places_of(rest, columns)
    groups = {}
    for row, number in numbers.items():
        groups.setdefault(part_of(row, places), []).append(number)
    return (rest, {row: reckoning.of_any(group) for row, group in groups.items()})
