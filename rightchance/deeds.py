"""Deeds: what is told, dropped and turned in a store."""

from rightchance.errors import DoubleFact, NoFact, NoRow, NoShare
from rightchance.shares import is_chance
from rightchance.tables import is_place, make_store


def store_after(schema, store, deeds):
    """Return the store after a list of deeds, or raise the error of the first deed that has one."""
    chances = {fact[:2]: fact[2] for fact in store}
    for deed in deeds:
        place = deed[1:3]
        check_deed(schema, deed, place in chances)
        if deed[0] == "drop":
            del chances[place]
        else:
            chances[place] = deed[3]
    return make_store(schema, [place + (chance,) for place, chance in chances.items()])


def check_deed(schema, deed, taken):
    """Raise the error of a deed, if it has one; taken tells if there is a fact with its place."""
    kind, name, row = deed[:3]
    if not is_place(schema, name, row):
        raise NoRow("a deed has no place of the schema")
    if kind != "drop" and not is_chance(deed[3]):
        raise NoShare("a deed has no chance")
    if kind == "tell" and taken:
        raise DoubleFact("a fact is told that is there")
    if kind != "tell" and not taken:
        raise NoFact("a fact is dropped or turned that is not there")
