"""The book: deeds ([35]), lists that are undone and redone and kept questions ([36]), and papers ([37])."""

import random
import unittest

from rightchance.book import Book
from rightchance.bounds import best_order
from rightchance.chance import chances_of, counts_of, mean_of
from rightchance.circuits import judge_circuit
from rightchance.errors import BadText, DoubleFact, NoFact, NoKept, NoPlan, NoQuestion, NoRow, NoSchema, NoShare
from rightchance.influence import ranked_places
from rightchance.judging import is_right
from rightchance.plans import number_of_plan
from rightchance.questions import put_row
from rightchance.reading import read_book, read_plan, read_question
from rightchance.tables import make_store
from tests.oracles import not_valid_plans, random_question, row_order, schema_of

HALF, THIRD = (1, 2), (1, 3)
HUGE = 10 ** 150
SCHEMA = (("q", 0), ("r", 1), ("s", 2), ("t", 1))
TEXT = "\n".join((
    "table q 0", "table r 1", "table s 2", "table t 1",
    "q() 1/4", "r(1) 1/2", 'r("a") 1/3', "s(1, 1) 1/2", 's("a", 2) 2/3', "t(2) 0/1",
))
STORE = read_book(TEXT)[1]
NOT_KEPT = (-HUGE, -1, 0, 3, 4, HUGE)


def question_for(text):
    return read_question(SCHEMA, text)


class BookTest(unittest.TestCase):
    def setUp(self):
        self.book = Book.of_text(TEXT)

    def state(self):
        """All that a book tells."""
        book = self.book
        kept = []
        for number in range(1, 45):
            try:
                kept.append((number, book.question(number), book.chances(number)))
            except NoKept:
                pass
        return (book.book_schema, book.whole_store, book.book_text(), kept, book.papers())

    def check_error(self, error, call, *arguments):
        """Check that a call raises an error of just this class and changes nothing, and return the error."""
        before = self.state()
        with self.subTest(arguments=arguments), self.assertRaises(error) as caught:
            call(*arguments)
        self.assertIs(type(caught.exception), error)
        self.assertEqual(self.state(), before)
        return caught.exception

    def keep(self, *texts):
        return [self.book.keep(question_for(text)) for text in texts]

    def store_text(self):
        return self.book.book_text().split("\n")[4:]


class TestNewBooks(BookTest):
    def test_a_book_with_the_empty_store(self):
        book = Book(SCHEMA)
        self.assertEqual((book.book_schema, book.whole_store, book.papers()), (SCHEMA, (), ()))
        self.assertEqual(book.book_text(), "table q 0\ntable r 1\ntable s 2\ntable t 1")
        self.assertEqual(Book(()).book_text(), "")
        self.assertEqual(Book(()).whole_store, ())

    def test_tables_that_are_not_a_schema(self):
        for schema in (
            (("r", 9),), (("r", -1),), (("R", 1),), (("", 1),), (("s", 1), ("r", 1)), (("r", 1), ("r", 1)),
            tuple([("t" + chr(ord("a") + k), 1) for k in range(21)]),
        ):
            with self.subTest(schema=schema), self.assertRaises(NoSchema) as caught:
                Book(schema)
            self.assertIs(type(caught.exception), NoSchema)

    def test_a_book_of_a_text(self):
        self.assertEqual((self.book.book_schema, self.book.whole_store), (SCHEMA, STORE))
        self.assertEqual(self.book.book_text(), TEXT)
        messy = Book.of_text('table s 2\n\n  table r 1  \n s( "a",1 )1/2\nr(7)   1/1\n')
        self.assertEqual(messy.book_text(), 'table r 1\ntable s 2\nr(7) 1/1\ns("a", 1) 1/2')
        self.assertEqual(Book.of_text("").book_text(), "")

    def test_a_book_of_a_text_has_no_list_that_can_be_undone(self):
        self.assertIs(self.book.undo(), False)
        self.assertIs(self.book.redo(), False)
        self.assertEqual(self.book.papers(), ())
        self.assertEqual(self.book.whole_store, STORE)
        self.keep("[x] r(x)")
        self.assertEqual(self.book.papers(), ())

    def test_texts_that_cannot_be_read(self):
        for text, line, at in (
            ("table r 1\nr(1) 2/4", 1, 7), ("table r 9", 0, 8), ("r(1) 1/2", 0, 0), ("\n table", 1, 6),
        ):
            with self.assertRaises(BadText) as caught:
                Book.of_text(text)
            self.assertEqual((caught.exception.line, caught.exception.at), (line, at))
        with self.assertRaises(DoubleFact):
            Book.of_text("table r 1\nr(1) 1/2\nr(1) 1/2")
        with self.assertRaises(BadText):
            Book.of_text("table r 1\nr(1) 1/2\nr(1) 1/2\nr(")

    def test_books_do_not_share_what_they_hold(self):
        other = Book.of_text(TEXT)
        self.book.tell("r", (5,), HALF)
        number = self.book.keep(question_for("[x] r(x)"))
        self.assertEqual(other.whole_store, STORE)
        self.assertRaises(NoKept, other.chances, number)
        self.assertEqual(other.keep(question_for("[] q()")), 1)


class TestDeeds(BookTest):
    def test_each_kind(self):
        self.assertIsNone(self.book.do([("tell", "r", (5,), THIRD)]))
        self.assertIsNone(self.book.do([("drop", "q", ())]))
        self.assertIsNone(self.book.do([("turn", "s", (1, 1), (1, 1))]))
        self.assertEqual(self.store_text(), [
            "r(1) 1/2", "r(5) 1/3", 'r("a") 1/3', "s(1, 1) 1/1", 's("a", 2) 2/3', "t(2) 0/1",
        ])

    def test_lists_of_one_deed(self):
        self.assertIsNone(self.book.tell("r", (5,), THIRD))
        self.assertIsNone(self.book.drop("q", ()))
        self.assertIsNone(self.book.turn("s", (1, 1), (0, 1)))
        self.assertEqual(self.store_text(), [
            "r(1) 1/2", "r(5) 1/3", 'r("a") 1/3', "s(1, 1) 0/1", 's("a", 2) 2/3', "t(2) 0/1",
        ])
        for _ in range(3):
            self.assertIs(self.book.undo(), True)
        self.assertIs(self.book.undo(), False)
        self.assertEqual(self.book.whole_store, STORE)

    def test_no_deed_and_many(self):
        self.assertIsNone(self.book.do([]))
        self.assertEqual(self.book.whole_store, STORE)
        self.book.do([("tell", "s", (k, k), (1, k)) for k in range(150, 1, -1)])
        self.assertEqual(len(self.book.whole_store), len(STORE) + 149)
        self.assertEqual(make_store(SCHEMA, list(self.book.whole_store)), self.book.whole_store)

    def test_deeds_that_rest_on_those_before_them(self):
        self.book.do([
            ("tell", "r", (5,), HALF), ("turn", "r", (5,), THIRD), ("drop", "q", ()), ("tell", "q", (), (1, 9)),
            ("turn", "r", (1,), (1, 1)), ("drop", "r", (1,)), ("tell", "t", (3,), HALF), ("drop", "t", (3,)),
            ("turn", "r", (5,), (1, 7)),
        ])
        self.assertEqual(self.store_text(), [
            "q() 1/9", "r(5) 1/7", 'r("a") 1/3', "s(1, 1) 1/2", 's("a", 2) 2/3', "t(2) 0/1",
        ])
        self.assertIs(self.book.undo(), True)
        self.assertEqual(self.book.whole_store, STORE)

    def test_the_list_that_is_passed_may_be_changed_later(self):
        deeds = [("tell", "r", (5,), HALF), ("drop", "q", ())]
        self.book.do(deeds)
        store = self.book.whole_store
        self.assertEqual(deeds, [("tell", "r", (5,), HALF), ("drop", "q", ())])
        deeds.clear()
        self.assertEqual(self.book.whole_store, store)
        self.book.undo()
        self.book.redo()
        self.assertEqual(self.book.whole_store, store)

    def check_deed(self, error, *deed):
        """Check the error of a deed alone, behind a good deed, and as a list of one deed."""
        self.check_error(error, self.book.do, [deed])
        self.check_error(error, self.book.do, [("tell", "s", (9, 9), HALF), deed])
        self.check_error(error, getattr(self.book, deed[0]), *deed[1:])

    def test_no_row(self):
        for name, row in (("x", ()), ("", (1,)), ("R", (1,)), ("rr", (1,)), ("r", ()), ("r", (1, 2)), ("q", (1,)),
                          ("r", ("A",)), ("r", ("",)), ("s", (1, "b2")), ("r", ("a b",))):
            self.check_deed(NoRow, "tell", name, row, HALF)
            self.check_deed(NoRow, "drop", name, row)
            self.check_deed(NoRow, "turn", name, row, HALF)

    def test_no_share(self):
        for chance in ((2, 4), (3, 2), (-1, 2), (1, -2), (1, 0), (0, 0), (0, 2), (2, 2), (HUGE, 1), (-HUGE, HUGE + 1)):
            self.check_deed(NoShare, "tell", "r", (5,), chance)
            self.check_deed(NoShare, "turn", "r", (1,), chance)

    def test_double_fact(self):
        for name, row in (("q", ()), ("r", (1,)), ("r", ("a",)), ("t", (2,))):
            self.check_deed(DoubleFact, "tell", name, row, HALF)
        self.check_error(DoubleFact, self.book.do, [("tell", "r", (5,), HALF), ("tell", "r", (5,), HALF)])

    def test_no_fact(self):
        for name, row in (("r", (5,)), ("r", ("b",)), ("s", (1, 2)), ("r", (-HUGE,))):
            self.check_deed(NoFact, "drop", name, row)
            self.check_deed(NoFact, "turn", name, row, HALF)
        self.check_error(NoFact, self.book.do, [("drop", "r", (1,)), ("drop", "r", (1,))])
        self.check_error(NoFact, self.book.do, [("drop", "r", (1,)), ("turn", "r", (1,), HALF)])
        self.book.drop("q", ())
        self.check_deed(NoFact, "drop", "q", ())

    def test_two_errors_of_one_deed(self):
        self.check_deed(NoRow, "tell", "x", (), (2, 4))
        self.check_deed(NoRow, "turn", "r", ("A",), (0, 0))
        self.check_deed(NoShare, "tell", "r", (1,), (2, 4))
        self.check_deed(NoShare, "turn", "r", (5,), (1, 0))

    def test_the_first_deed_that_has_an_error(self):
        good = ("tell", "r", (5,), HALF)
        bad = {
            NoRow: ("drop", "x", ()), NoShare: ("turn", "r", (1,), (2, 4)), DoubleFact: ("tell", "r", (1,), HALF),
            NoFact: ("drop", "r", (7,)),
        }
        for error, deed in bad.items():
            for other in bad.values():
                self.check_error(error, self.book.do, [deed, other])
                self.check_error(error, self.book.do, [good, deed, good, other])

    def test_a_list_with_an_error_changes_nothing(self):
        self.keep("[x] r(x)", "[x] s(x, y)")
        self.book.do([("tell", "r", (6,), HALF)])
        self.book.do([("drop", "r", (6,))])
        self.book.undo()
        self.check_error(NoFact, self.book.do, [("drop", "r", (1,)), ("turn", "q", (), THIRD), ("drop", "r", (1,))])
        self.assertIs(self.book.redo(), True)
        self.assertEqual(self.book.whole_store, STORE)


class TestUndoAndRedo(BookTest):
    def test_at_both_ends_and_in_between(self):
        stores = [STORE]
        for k in range(5, 9):
            self.book.tell("r", (k,), HALF)
            stores.append(self.book.whole_store)
        at = 4
        self.assertIs(self.book.redo(), False)
        source = random.Random(111)
        for _ in range(200):
            if source.random() < 0.5:
                self.assertIs(self.book.undo(), at > 0)
                at = max(0, at - 1)
            else:
                self.assertIs(self.book.redo(), at < 4)
                at = min(4, at + 1)
            self.assertEqual(self.book.whole_store, stores[at])

    def test_empty_lists_and_lists_that_change_nothing_are_lists(self):
        self.book.do([])
        self.book.do([("turn", "r", (1,), HALF)])
        self.book.do([("tell", "r", (5,), HALF), ("drop", "r", (5,))])
        for _ in range(3):
            self.assertIs(self.book.undo(), True)
            self.assertEqual(self.book.whole_store, STORE)
        self.assertIs(self.book.undo(), False)
        for _ in range(3):
            self.assertIs(self.book.redo(), True)
        self.assertIs(self.book.redo(), False)

    def test_a_new_list_forgets_what_was_undone(self):
        for deeds in ([], [("tell", "r", (7,), HALF)]):
            self.book.tell("r", (5,), HALF)
            self.book.tell("r", (6,), HALF)
            self.book.undo()
            self.book.undo()
            self.book.do(deeds)
            self.assertIs(self.book.redo(), False)
            self.assertIs(self.book.undo(), True)
            self.assertEqual(self.book.whole_store, STORE)
            self.assertIs(self.book.redo(), True)
            self.book.undo()

    def test_a_list_is_undone_as_a_whole(self):
        self.book.do([("drop", name, row) for name, row, _ in STORE])
        self.assertEqual(self.book.whole_store, ())
        self.book.undo()
        self.assertEqual(self.book.whole_store, STORE)
        self.book.redo()
        self.assertEqual(self.book.whole_store, ())

    def test_kept_questions_stay_kept(self):
        self.book.tell("r", (5,), HALF)
        number, = self.keep("[x] r(x)")
        self.book.undo()
        self.assertEqual(self.book.chances(number), (((1,), HALF), (("a",), THIRD)))
        self.book.redo()
        self.assertEqual(self.book.chances(number), (((1,), HALF), ((5,), HALF), (("a",), THIRD)))
        self.book.forget(number)
        self.book.undo()
        self.assertRaises(NoKept, self.book.question, number)


class TestKeptQuestions(BookTest):
    def test_numbers(self):
        self.assertEqual(self.keep("[x] r(x)", "[] q()", "[x] r(x)"), [1, 2, 3])
        self.assertEqual([self.book.question(k) for k in (1, 2, 3)],
                         [question_for(text) for text in ("[x] r(x)", "[] q()", "[x] r(x)")])
        self.assertIsNone(self.book.forget(3))
        self.assertEqual(self.keep("[] q()"), [4])
        for number in (1, 2, 4):
            self.book.forget(number)
        self.assertEqual(self.keep("[] q()"), [5])
        self.book.tell("r", (5,), HALF)
        self.book.undo()
        self.assertEqual(self.keep("[] q()"), [6])

    def test_questions_that_are_not_valid(self):
        self.keep("[x] r(x)")
        x, one = ("var", "x"), ("value", 1)
        for question, join in (
            ((-1, ()), None), ((9, ()), None), ((0, (((), ()),) * 9), None),
            ((0, (((), (("w", (one,)),)),)), 0), ((1, (((x,), (("r", (x,)),)), ((x,), ()))), 1),
            ((0, (((), (("r", (one, one)),)),)), 0), ((2, (((one,), ()),)), 0),
        ):
            error = self.check_error(NoQuestion, self.book.keep, question)
            self.assertEqual(error.join, join)
        self.assertEqual(self.keep("[] q()"), [2])

    def test_no_kept(self):
        first, second = self.keep("[] q()", "[] r(x)")
        for number in NOT_KEPT:
            self.check_no_kept(number)
        self.book.forget(first)
        self.check_no_kept(first)
        self.assertEqual(self.book.chances(second), (((), (2, 3)),))

    def check_no_kept(self, number):
        book = self.book
        for call in (
            lambda: book.question(number), lambda: book.forget(number), lambda: book.chances(number),
            lambda: book.why(number, ()), lambda: book.if_so([], [], number), lambda: book.bound(number),
            lambda: book.counts(number), lambda: book.mean(number), lambda: book.influences(number, ()),
            lambda: book.plan_number(number, ("scan", 0)), lambda: book.plan_number(number, ("scan", 7)),
        ):
            self.assertEqual(self.check_error(NoKept, call).number, number)

    def test_chances_are_kept_up_to_date(self):
        number, other = self.keep("[x] r(x), s(x, y)", "[] q()")
        self.assertEqual(self.book.chances(number), (((1,), (1, 4)), (("a",), (2, 9))))
        self.book.turn("r", (1,), (1, 1))
        self.assertEqual(self.book.chances(number), (((1,), HALF), (("a",), (2, 9))))
        self.book.do([("drop", "r", (1,)), ("tell", "r", (4,), HALF), ("tell", "s", (4, 4), HALF)])
        self.assertEqual(self.book.chances(number), (((4,), (1, 4)), (("a",), (2, 9))))
        self.book.turn("s", ("a", 2), (0, 1))
        self.assertEqual(self.book.chances(number), (((4,), (1, 4)),))
        self.book.undo()
        self.book.undo()
        self.assertEqual(self.book.chances(number), (((1,), HALF), (("a",), (2, 9))))
        self.book.redo()
        self.assertEqual(self.book.chances(number), (((4,), (1, 4)), (("a",), (2, 9))))
        self.assertEqual(self.book.chances(other), (((), (1, 4)),))

    def test_as_many_as_there_may_be(self):
        self.assertEqual(self.keep(*["[x] r(x)", "[] q()"] * 20), list(range(1, 41)))
        self.book.turn("q", (), HALF)
        self.assertEqual([number for number, _ in self.book.papers()], list(range(1, 41)))
        self.assertEqual(self.book.papers()[1::2], tuple([(k, (((), (1, 4), HALF),)) for k in range(2, 41, 2)]))


class TestPapers(BookTest):
    def test_none_before_the_first_list(self):
        self.assertEqual(self.book.papers(), ())
        self.keep("[x] r(x)")
        self.assertEqual(self.book.papers(), ())
        self.book.undo()
        self.book.redo()
        self.assertEqual(self.book.papers(), ())
        self.check_error(NoFact, self.book.drop, "r", (9,))
        self.assertEqual(self.book.papers(), ())

    def test_the_example_of_the_document(self):
        book = Book((("r", 1),))
        number = book.keep(read_question((("r", 1),), "[x] r(x)"))
        self.assertIsNone(book.tell("r", (1,), (1, 2)))
        self.assertIsNone(book.turn("r", (1,), (2, 3)))
        self.assertEqual((book.chances(number), book.papers()), ((((1,), (2, 3)),), ((1, (((1,), HALF, (2, 3)),)),)))

    def test_one_for_each_kept_question_also_without_changes(self):
        self.book.do([])
        self.assertEqual(self.book.papers(), ())
        self.keep("[x] r(x)", "[] q()", "none 2")
        self.book.do([])
        self.assertEqual(self.book.papers(), ((1, ()), (2, ()), (3, ())))
        self.book.turn("q", (), HALF)
        self.assertEqual(self.book.papers(), ((1, ()), (2, (((), (1, 4), HALF),)), (3, ())))
        self.book.turn("q", (), HALF)
        self.assertEqual(self.book.papers(), ((1, ()), (2, ()), (3, ())))
        self.book.forget(2)
        self.book.do([])
        self.assertEqual(self.book.papers(), ((1, ()), (3, ())))

    def test_they_tell_of_a_list_as_a_whole(self):
        self.keep("[x] r(x)")
        self.book.do([("turn", "r", (1,), THIRD), ("tell", "r", (5,), HALF), ("turn", "r", (1,), HALF),
                      ("drop", "r", ("a",)), ("turn", "r", (5,), THIRD)])
        self.assertEqual(self.book.papers(), ((1, (((5,), (0, 1), THIRD), (("a",), THIRD, (0, 1)))),))

    def test_rows_whose_chance_becomes_zero_or_was_zero(self):
        self.keep("[x] t(x); [x] r(x)")
        self.book.turn("t", (2,), HALF)
        self.assertEqual(self.book.papers(), ((1, (((2,), (0, 1), HALF),)),))
        self.book.turn("t", (2,), (0, 1))
        self.assertEqual(self.book.papers(), ((1, (((2,), HALF, (0, 1)),)),))
        self.book.drop("t", (2,))
        self.assertEqual(self.book.papers(), ((1, ()),))
        self.book.tell("t", (3,), (0, 1))
        self.assertEqual(self.book.papers(), ((1, ()),))
        self.book.drop("r", (1,))
        self.assertEqual(self.book.papers(), ((1, (((1,), HALF, (0, 1)),)),))

    def test_the_order_of_the_changes(self):
        self.keep("[x] r(x)")
        rows = [(v,) for v in ("b", 20, -11, "ab", 3, -2)]
        self.book.do([("tell", "r", row, HALF) for row in rows] + [("drop", "r", ("a",))])
        changes = [(row, (0, 1), HALF) for row in rows] + [(("a",), THIRD, (0, 1))]
        self.assertEqual(self.book.papers(), ((1, tuple(sorted(changes, key=lambda change: row_order(change[0])))),))

    def test_after_an_error_they_are_as_before(self):
        self.keep("[x] r(x)")
        self.book.tell("r", (5,), HALF)
        papers = ((1, (((5,), (0, 1), HALF),)),)
        for deeds in ([("drop", "r", (5,)), ("drop", "r", (5,))], [("tell", "x", (), HALF)]):
            self.assertRaises((NoFact, NoRow), self.book.do, deeds)
            self.assertEqual(self.book.papers(), papers)
        self.assertRaises(NoKept, self.book.forget, 9)
        self.assertEqual(self.book.papers(), papers)

    def test_undoing_and_redoing_count_as_lists(self):
        self.keep("[x] r(x)")
        self.book.tell("r", (5,), HALF)
        told, undone = ((1, (((5,), (0, 1), HALF),)),), ((1, (((5,), HALF, (0, 1)),)),)
        self.book.undo()
        self.assertEqual(self.book.papers(), undone)
        self.assertIs(self.book.undo(), False)
        self.assertEqual(self.book.papers(), undone)
        self.book.redo()
        self.assertEqual(self.book.papers(), told)
        self.assertIs(self.book.redo(), False)
        self.assertEqual(self.book.papers(), told)

    def test_keeping_and_forgetting_change_none(self):
        self.keep("[x] r(x)", "[] r(x)")
        self.book.tell("r", (5,), HALF)
        papers = ((1, (((5,), (0, 1), HALF),)), (2, (((), (2, 3), (5, 6)),)))
        self.assertEqual(self.book.papers(), papers)
        self.keep("[x, x] r(x)")
        self.assertEqual(self.book.papers(), papers)
        self.book.forget(1)
        self.assertEqual(self.book.papers(), papers)
        self.book.undo()
        undone = ((2, (((), (5, 6), (2, 3)),)), (3, (((5, 5), HALF, (0, 1)),)))
        self.assertEqual(self.book.papers(), undone)

    def test_the_result_is_made_of_tuples(self):
        self.keep("[x] r(x)")
        self.book.tell("r", (5,), HALF)
        papers = self.book.papers()
        for thing in (papers, papers[0], papers[0][1], papers[0][1][0], papers[0][1][0][0], self.book.chances(1)):
            self.assertIs(type(thing), tuple)


class TestAnswersOfTheBook(BookTest):
    def test_why(self):
        number, other = self.keep("[x] r(x), s(x, y); [x] t(x)", "none 0")
        for row in ((1,), ("a",), (2,), (5,), ("b",)):
            circuit = self.book.why(number, row)
            self.assertIs(judge_circuit(STORE, put_row(self.book.question(number), row), circuit), True)
        self.assertEqual(self.book.why(number, (5,)), ("no",))
        self.assertEqual(self.book.why(number, (2,)), ("fact", "t", (2,)))
        self.assertEqual(self.book.why(other, ()), ("no",))
        self.book.drop("s", (1, 1))
        self.assertEqual(self.book.why(number, (1,)), ("no",))

    def test_if_so(self):
        number, other = self.keep("[x] r(x), s(x, y)", "[] q()")
        before = self.state()
        for there, missing, expected in (
            ([], [], (((1,), (1, 4)), (("a",), (2, 9)))),
            ([("r", (1,))], [], (((1,), HALF), (("a",), (2, 9)))),
            ([("r", (1,)), ("s", (1, 1))], [("r", ("a",))], (((1,), (1, 1)),)),
            ([], [("r", (1,)), ("s", ("a", 2))], ()),
            ([("t", (2,)), ("q", ())], [], (((1,), (1, 4)), (("a",), (2, 9)))),
        ):
            places = (list(there), list(missing))
            with self.subTest(there=there, missing=missing):
                self.assertEqual(self.book.if_so(there, missing, number), expected)
                self.assertEqual((there, missing), places)
                self.assertEqual(self.state(), before)
        self.assertEqual(self.book.if_so([("q", ())], [], other), (((), (1, 1)),))
        self.assertEqual(self.book.if_so([], [("q", ())], other), ())
        self.assertIs(self.book.undo(), False)

    def test_bound(self):
        number, = self.keep("[] r(x), s(x, y), t(y)")
        self.assertEqual(self.book.bound(number), (("x", "y"), (0, 1)))
        self.book.turn("t", (2,), HALF)
        self.assertEqual(self.book.bound(number), best_order(self.book.whole_store, self.book.question(number)[1][0]))
        self.assertEqual(self.book.bound(number)[1], (1, 9))
        self.assertEqual(self.book.bound(self.keep("[] q()")[0]), ((), (1, 4)))

    def test_plan_number(self):
        number, = self.keep("[] r(x), s(x, y)")
        join = self.book.question(number)[1][0]
        for text in ("!x [r(x) * !y s(x, y)]", "!y !x [r(x) * s(x, y)]"):
            plan = read_plan(join, text)
            expected = (number_of_plan(STORE, join, plan), is_right(join, plan))
            self.assertEqual(self.book.plan_number(number, plan), expected)
        self.assertEqual(self.book.plan_number(number, read_plan(join, "!x [r(x) * !y s(x, y)]")), ((5, 12), True))
        self.assertIs(self.book.plan_number(number, read_plan(join, "!y !x [r(x) * s(x, y)]"))[1], False)

    def test_questions_for_which_there_are_no_plans(self):
        for text in ("[x] r(x)", "[1] q()", "none 0", "none 3", "[] q(); [] q()", "[] q(); []", "[] r(x), r(1)",
                     "[] s(x, y), q(), s(y, x)", "[]", "[x] r(x), r(x); [1]"):
            number, = self.keep(text)
            self.check_error(NoPlan, self.book.bound, number)
            for plan in (("scan", 0), ("project", "x", ("scan", 0)), ("scan", 9)):
                self.check_error(NoPlan, self.book.plan_number, number, plan)

    def test_plans_that_are_not_valid(self):
        for join, plan in not_valid_plans():
            self.book = Book(schema_of(join))
            number = self.book.keep((0, (join,)))
            self.check_error(NoPlan, self.book.plan_number, number, plan)

    def test_counts_and_mean(self):
        for text in ("[x] r(x), s(x, y)", "[] q()", "none 2", "[x] r(x); [x] t(x); [5]"):
            number, = self.keep(text)
            question = self.book.question(number)
            self.assertEqual(self.book.counts(number), counts_of(STORE, question))
            self.assertEqual(self.book.mean(number), mean_of(STORE, question))
        self.assertEqual(self.book.counts(1), ((0, (7, 12)), (1, (13, 36)), (2, (1, 18))))
        self.assertEqual(self.book.mean(1), (17, 36))
        self.book.drop("r", (1,))
        self.assertEqual(self.book.counts(1), ((0, (7, 9)), (1, (2, 9))))
        self.assertEqual(self.book.mean(1), (2, 9))

    def test_influences(self):
        number, = self.keep("[x] r(x), s(x, y)")
        for row in ((1,), ("a",), (7,)):
            expected = ranked_places(STORE, put_row(self.book.question(number), row))
            self.assertEqual(self.book.influences(number, row), expected)
        self.assertEqual(self.book.influences(number, (1,))[:2], ((HALF, ("r", (1,))), (HALF, ("s", (1, 1)))))
        self.assertEqual(len(self.book.influences(number, (7,))), len(STORE))


class Model:
    """What a book should be, with all lists that were done, plainly."""

    def __init__(self):
        self.stores, self.at, self.kept, self.last, self.papers = [()], 0, {}, 0, ()

    def store(self):
        return self.stores[self.at]

    def go_to(self, at):
        old, self.at = self.store(), at
        papers = []
        for number, question in sorted(self.kept.items()):
            before, behind = dict(chances_of(old, question)), dict(chances_of(self.store(), question))
            rows = sorted({**before, **behind}, key=row_order)
            changes = [(row, before.get(row, (0, 1)), behind.get(row, (0, 1))) for row in rows]
            papers.append((number, tuple([change for change in changes if change[1] != change[2]])))
        self.papers = tuple(papers)

    def do(self, deeds):
        chances = {fact[:2]: fact[2] for fact in self.store()}
        for kind, name, row, *rest in deeds:
            if dict(SCHEMA).get(name) != len(row):
                return NoRow
            if rest and rest[0] == (2, 4):
                return NoShare
            if (kind == "tell") == ((name, row) in chances):
                return DoubleFact if kind == "tell" else NoFact
            chances.pop((name, row), None)
            if rest:
                chances[(name, row)] = rest[0]
        places = sorted(chances, key=lambda place: (place[0], row_order(place[1])))
        self.stores[self.at + 1:] = [tuple([place + (chances[place],) for place in places])]
        self.go_to(self.at + 1)
        return None

    def step(self, by):
        if not 0 <= self.at + by < len(self.stores):
            return False
        self.go_to(self.at + by)
        return True


class TestBooksGoneThrough(unittest.TestCase):
    """Long runs of random calls, against the model."""

    def random_deed(self, source):
        name, count = source.choice(SCHEMA)
        row = tuple([source.choice((1, 2, "a")) for _ in range(count + (source.random() < 0.02))])
        kind = source.choice(("tell", "tell", "drop", "turn"))
        return (kind, name, row) + (() if kind == "drop" else (source.choice((HALF, THIRD, (1, 1), (0, 1), (2, 3))),))

    def step(self, source, book, model):
        choice = source.random()
        if choice < 0.5:
            deeds = [self.random_deed(source) for _ in range(source.choice((0, 1, 1, 1, 2, 3)))]
            if source.random() < 0.05:
                deeds.append(("tell", "r", (3,), (2, 4)))
            error = model.do(deeds)
            if error is None:
                book.do(deeds)
            else:
                self.assertRaises(error, book.do, deeds)
        elif choice < 0.8:
            by = source.choice((-1, -1, 1))
            self.assertIs(book.undo() if by < 0 else book.redo(), model.step(by))
        elif choice < 0.93 and len(model.kept) < 4:
            question = random_question(source, SCHEMA)
            model.last += 1
            model.kept[model.last] = question
            self.assertEqual(book.keep(question), model.last)
        else:
            number = source.randint(0, model.last + 1)
            if model.kept.pop(number, None) is None:
                self.assertRaises(NoKept, book.forget, number)
            else:
                book.forget(number)

    def test_random_calls(self):
        for seed in range(12):
            source = random.Random(seed)
            book, model = Book(SCHEMA), Model()
            for _ in range(80):
                self.step(source, book, model)
                self.assertEqual(book.whole_store, model.store())
                if source.random() < 0.7:
                    self.assertEqual(book.papers(), model.papers)
                for number, question in model.kept.items():
                    self.assertEqual(book.question(number), question)
                    self.assertEqual(book.chances(number), chances_of(model.store(), question))


class TestManyFacts(unittest.TestCase):
    def test_a_book_that_grows_fact_by_fact(self):
        book = Book((("r", 1), ("s", 2)))
        number = book.keep(read_question(book.book_schema, "[x] r(x), s(x, y)"))
        for k in range(20):
            book.tell("r", (k,), HALF)
        for k in range(180):
            book.tell("s", (k % 20, k), HALF)
        self.assertEqual(len(book.whole_store), 200)
        self.assertEqual(book.chances(number), tuple([((k,), (511, 1024)) for k in range(20)]))
        self.assertEqual(book.papers(), ((1, (((19,), (255, 512), (511, 1024)),)),))
        for _ in range(200):
            self.assertIs(book.undo(), True)
        self.assertEqual(book.whole_store, ())


if __name__ == "__main__":
    unittest.main()
