"""The worlds of a store, their numbers and their chances."""

from rightchance.shares import product_of, rest_of


def count_worlds(store):
    """Return the number of worlds of the store."""
    return 1 << len(store)


def world_at(store, n):
    """Return the world with the number n, or None if there is none."""
    if n < 0 or n >= count_worlds(store):
        return None
    # The first place decides between two worlds, so it is the highest bit of the number.
    bits = [(n >> k) & 1 for k in reversed(range(len(store)))]
    return tuple([(name, row) for (name, row, _), bit in zip(store, bits) if bit == 1])


def number_of(store, world):
    """Return the number of a world of the store."""
    there = set(world)
    number = 0
    for name, row, _ in store:
        number = 2 * number + (1 if (name, row) in there else 0)
    return number


def chance_of_world(store, world):
    """Return the chance of a world of the store."""
    there = set(world)
    return product_of([chance if (name, row) in there else rest_of(chance) for name, row, chance in store])
