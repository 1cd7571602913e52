"""Tables, schemas, places, facts and stores."""

from rightchance.errors import DoubleFact, NoRow, NoSchema, NoShare
from rightchance.shares import ZERO, is_chance
from rightchance.values import is_row, is_word, row_key

MOST_TABLES = 20
MOST_COLUMNS = 8


def check_schema(schema):
    """Raise NoSchema if a tuple of pairs of a string and an integer is not a schema."""
    if len(schema) > MOST_TABLES:
        raise NoSchema("there are too many tables")
    for name, columns in schema:
        if not is_word(name):
            raise NoSchema("the name of a table is not a word")
        if columns < 0 or columns > MOST_COLUMNS:
            raise NoSchema("the number of columns is out of range")
    names = [table[0] for table in schema]
    for k in range(1, len(names)):
        if names[k - 1] >= names[k]:
            raise NoSchema("the names are not in alphabetical order, each once")


def column_count(schema, name):
    """Return the number of columns of the table with this name, or None if there is no such table."""
    for table, columns in schema:
        if table == name:
            return columns
    return None


def is_place(schema, name, row):
    """Tell if a string and a tuple of integers and strings are a place of the schema."""
    columns = column_count(schema, name)
    return columns is not None and len(row) == columns and is_row(row)


def place_key(place):
    """Return what Python orders as places are ordered; a fact may be passed, too."""
    return (place[0], row_key(place[1]))


def make_store(schema, facts):
    """Return the store of the facts of a list, or raise the error of the first fact that has one."""
    taken = {}
    store = []
    for name, row, chance in facts:
        if not is_place(schema, name, row):
            raise NoRow("a fact has no place of the schema")
        if not is_chance(chance):
            raise NoShare("a fact has no chance")
        if (name, row) in taken:
            raise DoubleFact("two facts have the same place")
        taken[(name, row)] = True
        store.append((name, row, chance))
    return tuple(sorted(store, key=place_key))


def chance_at(store, name, row):
    """Return the chance of a place in a store."""
    for table, values, chance in store:
        if table == name and values == row:
            return chance
    return ZERO
