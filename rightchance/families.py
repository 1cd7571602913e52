"""Families of lots: a lot is told as an integer whose bits are the indexes of its facts in the store.

A family is a list or a tuple of lots, none of which has all places of another one.
"""


def facts_in(lot):
    """Return the list of the indexes of the facts of a lot, in ascending order."""
    indexes = []
    while lot:
        lowest = lot & -lot
        indexes.append(lowest.bit_length() - 1)
        lot = lot ^ lowest
    return indexes


def size_of(lot):
    """Return the number of facts of a lot."""
    count = 0
    while lot:
        lot = lot & (lot - 1)
        count += 1
    return count


def all_facts(lots):
    """Return the facts that are in any of the lots, told like a lot."""
    together = 0
    for lot in lots:
        together = together | lot
    return together


def smallest_of(lots):
    """Return the tuple of those of the lots that do not have all facts of another one, each once, in order."""
    least = min([size_of(lot) for lot in lots], default=0)
    kept = {}
    # As integers, lots are greater than those of whose facts they have all, so that these come before them.
    for lot in sorted(set(lots)):
        if size_of(lot) == least or not has_all_of_one(lot, kept):
            kept[lot] = True
    return tuple(kept)


def has_all_of_one(lot, kept):
    """Tell if the lot has all facts of one of the lots that are the keys of the dict."""
    # Lots are small, so that a lot often has fewer parts than there are other lots.
    if 1 << size_of(lot) > len(kept):
        return any([small & lot == small for small in kept])
    part = lot
    while part:
        part = (part - 1) & lot
        if part in kept:
            return True
    return False


def with_fact(lots, bit):
    """Return the family for the case that the fact of the bit is there."""
    return smallest_of([lot & ~bit for lot in lots])


def without_fact(lots, bit):
    """Return the family for the case that the fact of the bit is missing."""
    return tuple([lot for lot in lots if not lot & bit])


def linked_lots(lots):
    """Part lots into groups that have no fact in common, and return the list of the groups, in order of their lots."""
    return [[lots[k] for k in group] for group in linked_places(lots)]


def linked_places(bits):
    """Part a list of integers into groups that have no bit in common; return the groups as lists of indexes.

    The groups are in ascending order of their first indexes, and so are the indexes in them.
    """
    # Each group has its bits and its indexes; one that has become part of another one has neither.
    groups = []
    for place, own in enumerate(bits):
        linked = [group for group in groups if group[0] & own]
        if not linked:
            groups.append([own, [place]])
            continue
        home = linked[0]
        home[0] = home[0] | own
        home[1].append(place)
        for other in linked[1:]:
            home[0] = home[0] | other[0]
            home[1].extend(other[1])
            other[0] = 0
            other[1] = []
    return [sorted(places) for _, places in groups if places]
