"""Reading books, questions and plans from their texts."""

from rightchance.questions import check_question
from rightchance.shares import is_chance
from rightchance.tables import MOST_COLUMNS, make_store
from rightchance.tokens import Line


def read_book(text):
    """Return the pair of the schema and the store that the text writes."""
    columns = {}
    facts = []
    for number, written in enumerate(text.split("\n")):
        line = Line(written, number)
        if line.kind() == "end":
            continue
        name = read_fact_name(line, columns)
        if name is None:
            table, count = read_table(line, columns)
            columns[table] = count
        else:
            facts.append(read_fact(line, name, columns[name]))
    schema = tuple([(table, columns[table]) for table in sorted(columns)])
    return (schema, make_store(schema, facts))


def read_fact_name(line, columns):
    """Read the name of a fact, or the word table of the line of a table; for this one, return None."""
    if not line.has_word("table"):
        return line.take_word_of(columns)
    # A line of a table might always follow, so that this word fits; what comes next tells which line it is.
    line.take("word")
    if line.kind() == "word":
        return None
    if "table" not in columns:
        line.refuse()
    return "table"


def read_table(line, columns):
    """Read the rest of the line of a table, and return its name and the number of its columns."""
    if line.worth() in columns:
        line.refuse()
    name = line.take("word")
    count = line.take_integer(lambda k: 0 <= k <= MOST_COLUMNS)
    line.take_end()
    return (name, count)


def read_fact(line, name, count):
    """Read the rest of the line of a fact, and return the fact; count is the number of its table's columns."""
    row = read_listed(line, "()", count, read_value)
    n = line.take_integer(lambda k: k >= 0)
    line.take_sign("/")
    d = line.take_integer(lambda k: is_chance((n, k)))
    line.take_end()
    return (name, row, (n, d))


def read_listed(line, brackets, count, read_one):
    """Read brackets with so many things in them, and return the tuple of what read_one returns for each."""
    line.take_sign(brackets[0])
    found = []
    for index in range(count):
        if index > 0:
            line.take_sign(",")
        found.append(read_one(line))
    line.take_sign(brackets[1])
    return tuple(found)


def read_value(line):
    """Read a value."""
    return line.take("value")


def read_term(line):
    """Read a variable or a value, and return the term."""
    if line.kind() == "word":
        return ("var", line.take("word"))
    return ("value", line.take("value"))


def read_question(schema, text):
    """Return the question that the text writes."""
    line = Line(text, 0)
    if line.has_word("none"):
        line.take("word")
        question = (line.take_integer(lambda k: k >= 0), ())
    else:
        question = read_joins(schema, line)
    line.take_end()
    check_question(schema, question)
    return question


def read_joins(schema, line):
    """Read one or more joins, and return the question."""
    columns = {name: count for name, count in schema}
    first_head = read_first_head(line)
    width = len(first_head)
    joins = [(first_head, read_body(columns, line))]
    while line.has_sign(";"):
        line.take_sign(";")
        head = read_listed(line, "[]", width, read_term)
        joins.append((head, read_body(columns, line)))
    return (width, tuple(joins))


def read_first_head(line):
    """Read a head with any number of terms."""
    line.take_sign("[")
    terms = []
    while not line.has_sign("]"):
        if terms:
            line.take_sign(",")
        terms.append(read_term(line))
    line.take_sign("]")
    return tuple(terms)


def read_body(columns, line):
    """Read the atoms that come next, if there are any."""
    if line.kind() != "word":
        return ()
    atoms = [read_atom(columns, line)]
    while line.has_sign(","):
        line.take_sign(",")
        atoms.append(read_atom(columns, line))
    return tuple(atoms)


def read_atom(columns, line):
    """Read an atom."""
    name = line.take_word_of(columns)
    return (name, read_listed(line, "()", columns[name], read_term))


def read_plan(join, text):
    """Return the plan for the join that the text writes."""
    line = Line(text, 0)
    plan = read_part(join[1], line)
    line.take_end()
    return plan


def read_part(body, line):
    """Read a plan inside a plan, or the whole one."""
    if line.has_sign("!"):
        line.take_sign("!")
        variable = line.take("word")
        return ("project", variable, read_part(body, line))
    if line.has_sign("["):
        line.take_sign("[")
        parts = [read_part(body, line)]
        while len(parts) < 2 or not line.has_sign("]"):
            line.take_sign("*")
            parts.append(read_part(body, line))
        line.take_sign("]")
        return ("join", tuple(parts))
    return ("scan", read_scan(body, line))


def read_scan(body, line):
    """Read an atom of the body, and return its index."""
    names = [name for name, _ in body]
    index = names.index(line.take_word_of(names))
    line.take_sign("(")
    for place, term in enumerate(body[index][1]):
        if place > 0:
            line.take_sign(",")
        line.take_this_term(term)
    line.take_sign(")")
    return index
