"""Going through things that are made of things, without calls inside each other."""


def bottom_up(root, inner_of):
    """Return the list of the root and of all things in it, each once; what a thing is made of comes before it.

    The function inner_of returns the things of which a thing is made directly.
    Things may be deeper inside each other than the calls of Python may be.
    """
    order = []
    looked_at = {}
    done = {}
    waiting = [root]
    while waiting:
        thing = waiting.pop()
        if thing in done:
            continue
        if thing in looked_at:
            done[thing] = True
            order.append(thing)
        else:
            looked_at[thing] = True
            waiting.append(thing)
            waiting.extend([inner for inner in inner_of(thing) if inner not in looked_at])
    return order
