"""Terms, atoms, joins and questions: which are valid, their variables, and a row that is put into one."""

from rightchance.errors import NoQuestion
from rightchance.tables import column_count
from rightchance.values import is_value, is_word

MOST_WIDTH = 8
MOST_JOINS = 8
MOST_ATOMS = 8


def check_question(schema, question):
    """Raise NoQuestion if a tuple with the form of a question is not valid for the schema."""
    width, joins = question
    if width < 0 or width > MOST_WIDTH or len(joins) > MOST_JOINS:
        raise NoQuestion(None)
    for index, join in enumerate(joins):
        if not is_valid_join(schema, width, join):
            raise NoQuestion(index)


def is_valid_join(schema, width, join):
    """Tell if a join is valid in a question of this width."""
    head, body = join
    if len(head) != width or len(body) > MOST_ATOMS:
        return False
    if not all([is_valid_atom(schema, atom) for atom in body]):
        return False
    bound = variables_among([term for _, terms in body for term in terms])
    return are_valid_terms(head) and all([x in bound for x in variables_among(head)])


def is_valid_atom(schema, atom):
    """Tell if an atom has the name of a table, as many terms as its columns, and only terms that are valid."""
    name, terms = atom
    return column_count(schema, name) == len(terms) and are_valid_terms(terms)


def are_valid_terms(terms):
    """Tell if each variable of the terms is a word and each value is a value."""
    return all([is_word(term[1]) if term[0] == "var" else is_value(term[1]) for term in terms])


def variables_among(terms):
    """Return the tuple of the variables of some terms, in alphabetical order, each once."""
    return tuple(sorted({term[1] for term in terms if term[0] == "var"}))


def variables_of(join):
    """Return the tuple of the variables of a join, in alphabetical order."""
    head, body = join
    return variables_among(list(head) + [term for _, terms in body for term in terms])


def is_simple(join):
    """Tell if no two atoms of a join have the same name."""
    names = [atom[0] for atom in join[1]]
    return len(set(names)) == len(names)


def put_row(question, row):
    """Return the closed question in which the row is put."""
    closed = []
    for head, body in question[1]:
        valuation = valuation_of(head, row)
        if valuation is not None:
            closed.append(((), body_under(valuation, body)))
    return (0, tuple(closed))


def valuation_of(terms, row):
    """Return the dict of the values that the variables must have so that the terms become the row, or None."""
    valuation = {}
    for (kind, worth), value in zip(terms, row):
        needed = valuation.setdefault(worth, value) if kind == "var" else worth
        if needed != value:
            return None
    return valuation


def terms_under(valuation, terms):
    """Return the tuple of the terms in which each variable of the valuation is replaced by its value."""
    return tuple([("value", valuation[x]) if kind == "var" and x in valuation else (kind, x) for kind, x in terms])


def body_under(valuation, body):
    """Return the body in which each variable of the valuation is replaced by its value."""
    return tuple([(name, terms_under(valuation, terms)) for name, terms in body])
