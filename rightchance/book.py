"""The book: a schema and a store that deeds change, with kept questions and what the deeds mean for them."""

from rightchance.bounds import best_order
from rightchance.chance import chances_of, counts_of, mean_of
from rightchance.circuits import make_circuit
from rightchance.deeds import store_after
from rightchance.errors import NoKept, NoPlan
from rightchance.influence import ranked_places
from rightchance.judging import is_right
from rightchance.plans import check_plan, number_of_plan
from rightchance.questions import check_question, is_simple, put_row
from rightchance.reading import read_book
from rightchance.shares import ONE, ZERO
from rightchance.tables import check_schema
from rightchance.values import sorted_rows
from rightchance.writing import write_book


class Book:
    """A schema and a store, the lists of deeds that were done, and the kept questions."""

    def __init__(self, schema):
        check_schema(schema)
        self._schema = schema
        self._now = Moment(())
        # The moments before the lists that can be undone, and behind those that can be redone.
        self._undoable = []
        self._redoable = []
        self._kept = {}
        self._last_number = 0
        # The moment before the last list, and the questions that were kept when it was done.
        self._before = Moment(())
        self._told_of = {}

    @property
    def book_schema(self):
        """The schema."""
        return self._schema

    @property
    def whole_store(self):
        """The store."""
        return self._now.store

    @staticmethod
    def of_text(text):
        """Return a book with the schema and the store that the text writes."""
        schema, store = read_book(text)
        book = Book(schema)
        book._now = Moment(store)
        return book

    def book_text(self):
        """Return the text of the schema and the store."""
        return write_book(self._schema, self._now.store)

    def do(self, deeds):
        """Do all deeds of a list, or raise the error of the first one that has one."""
        store = store_after(self._schema, self._now.store, deeds)
        self._undoable.append(self._now)
        self._redoable = []
        self._go_to(Moment(store))

    def tell(self, name, row, chance):
        """Add a fact."""
        self.do([("tell", name, row, chance)])

    def drop(self, name, row):
        """Remove a fact."""
        self.do([("drop", name, row)])

    def turn(self, name, row, chance):
        """Give a fact another chance."""
        self.do([("turn", name, row, chance)])

    def undo(self):
        """Go back to the moment before the last list; tell if there was a list to undo."""
        if not self._undoable:
            return False
        self._redoable.append(self._now)
        self._go_to(self._undoable.pop())
        return True

    def redo(self):
        """Go forward again over the list that was undone last; tell if there was a list to redo."""
        if not self._redoable:
            return False
        self._undoable.append(self._now)
        self._go_to(self._redoable.pop())
        return True

    def _go_to(self, moment):
        """Make this the present moment, and remember what the papers tell of."""
        self._before = self._now
        self._now = moment
        self._told_of = {number: question for number, question in self._kept.items()}

    def keep(self, question):
        """Keep a question, and return its number."""
        check_question(self._schema, question)
        self._last_number += 1
        self._kept[self._last_number] = question
        return self._last_number

    def question(self, number):
        """Return the kept question with the number."""
        if number not in self._kept:
            raise NoKept(number)
        return self._kept[number]

    def forget(self, number):
        """Keep the question with the number no longer."""
        if number not in self._kept:
            raise NoKept(number)
        del self._kept[number]

    def chances(self, number):
        """Return the tuple of the pairs of a row and its chance that is not 0 for the kept question."""
        return self._now.chances_for(number, self.question(number))

    def papers(self):
        """Return the tuple of the papers of the last list."""
        papers = []
        for number, question in self._told_of.items():
            before = self._before.chances_for(number, question)
            papers.append((number, changes_between(before, self._now.chances_for(number, question))))
        return tuple(papers)

    def why(self, number, row):
        """Return a circuit that is right for the kept question in which the row is put."""
        return make_circuit(self._now.store, put_row(self.question(number), row))

    def if_so(self, there, missing, number):
        """Return the chances of the kept question if some places were there and some others missing."""
        question = self.question(number)
        left = [fact for fact in self._now.store if fact[:2] not in missing]
        return chances_of(tuple([fact[:2] + (ONE,) if fact[:2] in there else fact for fact in left]), question)

    def bound(self, number):
        """Return the best order of the join of the kept question, and the number of its plan."""
        return best_order(self._now.store, self._join_to_plan(number))

    def plan_number(self, number, plan):
        """Return the number of a plan for the join of the kept question, and True if it is right, otherwise False."""
        join = self._join_to_plan(number)
        check_plan(join, plan)
        return (number_of_plan(self._now.store, join, plan), is_right(join, plan))

    def _join_to_plan(self, number):
        """Return the only join of the kept question, which must be one for which there are plans."""
        width, joins = self.question(number)
        if width != 0 or len(joins) != 1 or not is_simple(joins[0]) or not joins[0][1]:
            raise NoPlan("there are no plans for this question")
        return joins[0]

    def counts(self, number):
        """Return the tuple of the pairs of a number of answers of the kept question and its share that is not 0."""
        return counts_of(self._now.store, self.question(number))

    def mean(self, number):
        """Return the mean of the number of answers of the kept question."""
        return mean_of(self._now.store, self.question(number))

    def influences(self, number, row):
        """Return the pairs of an influence and a place for the kept question in which the row is put."""
        return ranked_places(self._now.store, put_row(self.question(number), row))


class Moment:
    """A store, with the chances that were found in it for kept questions."""

    def __init__(self, store):
        self.store = store
        self._found = {}

    def chances_for(self, number, question):
        """Return the chances in the store for the question that is kept under the number."""
        # A number always stands for the same question, so that what was found stays right.
        if number not in self._found:
            self._found[number] = chances_of(self.store, question)
        return self._found[number]


def changes_between(before, behind):
    """Return the tuple of the triples of a row and its chances in the first and the other pairs, where they differ."""
    old = {row: chance for row, chance in before}
    new = {row: chance for row, chance in behind}
    changes = [(row, old.get(row, ZERO), new.get(row, ZERO)) for row in sorted_rows(list(old) + list(new))]
    return tuple([change for change in changes if change[1] != change[2]])
