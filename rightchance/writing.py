"""The written forms of books, questions, plans and circuits."""


def write_value(value):
    """Return the text of an integer or a word."""
    if isinstance(value, int):
        return str(value)
    return f'"{value}"'


def write_term(term):
    """Return the text of a variable or a value."""
    kind, worth = term
    return worth if kind == "var" else write_value(worth)


def write_place(name, row):
    """Return the text of a place."""
    return name + "(" + ", ".join([write_value(value) for value in row]) + ")"


def write_atom(atom):
    """Return the text of an atom."""
    name, terms = atom
    return name + "(" + ", ".join([write_term(term) for term in terms]) + ")"


def write_book(schema, store):
    """Return the text of a book with this schema and this store."""
    tables = [f"table {name} {columns}" for name, columns in schema]
    facts = [f"{write_place(name, row)} {n}/{d}" for name, row, (n, d) in store]
    return "\n".join(tables + facts)


def write_join(join):
    """Return the text of a join with its head."""
    head, body = join
    text = "[" + ", ".join([write_term(term) for term in head]) + "]"
    if body:
        text = text + " " + ", ".join([write_atom(atom) for atom in body])
    return text


def write_question(question):
    """Return the text of a question."""
    width, joins = question
    if not joins:
        return f"none {width}"
    return "; ".join([write_join(join) for join in joins])


def write_plan(join, plan):
    """Return the text of a plan for the join."""
    if plan[0] == "scan":
        return write_atom(join[1][plan[1]])
    if plan[0] == "project":
        return "!" + plan[1] + " " + write_plan(join, plan[2])
    return "[" + " * ".join([write_plan(join, part) for part in plan[1]]) + "]"


def write_circuit(circuit):
    """Return the text of a circuit."""
    pieces = []
    # A circuit may be deeper than the calls of Python may be inside each other, so this keeps its own stack.
    waiting = pieces_of(circuit)[::-1]
    while waiting:
        piece = waiting.pop()
        if isinstance(piece, str):
            pieces.append(piece)
        elif piece[0] == "case":
            waiting.extend([")"] + pieces_of(piece)[::-1] + ["("])
        else:
            waiting.extend(pieces_of(piece)[::-1])
    return "".join(pieces)


def pieces_of(circuit):
    """Return the list of the texts of a circuit and of the circuits that are directly in it, as they follow."""
    kind = circuit[0]
    if kind == "fact":
        return [write_place(circuit[1], circuit[2])]
    if kind == "any":
        return pieces_between(circuit[1], " / ")
    if kind == "both":
        return pieces_between(circuit[1], " * ")
    if kind == "case":
        return [write_place(circuit[1], circuit[2]), " ? ", circuit[3], " : ", circuit[4]]
    return [kind]


def pieces_between(circuits, sign):
    """Return the list of the circuits with the sign between them and square brackets around them."""
    pieces = ["["]
    for index, circuit in enumerate(circuits):
        if index > 0:
            pieces.append(sign)
        pieces.append(circuit)
    return pieces + ["]"]
