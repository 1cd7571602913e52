"""Lots and the smallest lots ([29])."""

import random
import unittest

from rightchance.lots import smallest_lots
from rightchance.plainly import holds
from rightchance.reading import read_book, read_question
from tests.lot_oracles import plain_lots
from tests.oracles import atom, closed, random_case, worlds_with_chances

TEXT = "\n".join((
    "table e 2", "table q 0", "table r 1", "table s 2",
    "e(1, 1) 1/2", "e(1, 2) 1/2", "e(2, 3) 1/2", "e(3, 1) 1/2", 'e("a", 1) 1/3',
    "r(-5) 0/1", "r(1) 1/2", "r(2) 1/1", 'r("a") 1/2',
    "s(1, 5) 1/3", "s(1, 7) 0/1", "s(2, 5) 1/1", 's("a", "a") 1/2',
))
SCHEMA, STORE = read_book(TEXT)


class TestSmallestLots(unittest.TestCase):
    def check(self, text, *lots, store=STORE):
        """Each lot is told as the text of a question with just the atoms that are its places."""
        question = read_question(SCHEMA, text)
        expected = tuple([self.places(lot) for lot in lots])
        with self.subTest(text):
            self.assertEqual(smallest_lots(store, question), expected)
            self.assertEqual(plain_lots(store, question), expected)

    def places(self, text):
        body = read_question(SCHEMA, "[] " + text)[1][0][1]
        return tuple([(name, tuple([worth for _, worth in terms])) for name, terms in body])

    def test_questions_without_joins(self):
        self.check("none 0")
        self.check("none 0", store=())

    def test_joins_without_atoms_have_the_empty_lot(self):
        self.check("[]", "")
        self.check("[]", "", store=())
        self.check("[] r(x); []", "")
        self.check("[]; []; [] r(1)", "")

    def test_one_atom(self):
        self.check("[] r(x)", "r(-5)", "r(1)", "r(2)", 'r("a")')
        self.check("[] q()")
        self.check("[] r(1)", "r(1)")
        self.check("[] r(3)")
        self.check("[] s(x, 5)", "s(1, 5)", "s(2, 5)")
        self.check('[] s(x, "a")', 's("a", "a")')

    def test_the_empty_store(self):
        self.check("[] r(x)", store=())
        self.check("[] q(); [] r(1), s(1, x)", store=())

    def test_chances_do_not_matter(self):
        self.check("[] r(x), s(x, 7)", "r(1), s(1, 7)")
        self.check("[] r(-5), r(2)", "r(-5), r(2)")
        for chance in ((0, 1), (1, 1), (1, 2)):
            store = tuple([fact[:2] + (chance,) for fact in STORE])
            self.check("[] r(x), s(x, 7)", "r(1), s(1, 7)", store=store)
            self.check("[] r(x)", "r(-5)", "r(1)", "r(2)", 'r("a")', store=store)

    def test_joins_with_common_variables(self):
        self.check("[] r(x), s(x, y)", "r(1), s(1, 5)", "r(1), s(1, 7)", "r(2), s(2, 5)", 'r("a"), s("a", "a")')
        self.check("[] s(x, y), r(x), r(y)", 'r("a"), s("a", "a")')

    def test_a_place_that_several_atoms_become_stands_once(self):
        self.check("[] r(x), r(x), r(1)", "r(1)")
        self.check("[] s(x, y), s(x, 5)", "s(1, 5)", "s(2, 5)")
        self.check('[] e(x, y), e(y, x), e(1, x)', "e(1, 1)")

    def test_lots_that_have_all_places_of_another_one(self):
        self.check("[] r(x), r(y)", "r(-5)", "r(1)", "r(2)", 'r("a")')
        self.check("[] r(1), s(1, x); [] r(1)", "r(1)")
        self.check("[] r(1); [] r(1), s(1, x)", "r(1)")
        self.check("[] r(1), r(2); [] r(1), r(2), q(); [] r(2), s(2, 5), r(1)", "r(1), r(2)")
        self.check("[] e(x, y), e(y, z)", "e(1, 1)", "e(1, 2), e(2, 3)", "e(1, 2), e(3, 1)", 'e(1, 2), e("a", 1)',
                   "e(2, 3), e(3, 1)")
        self.check("[] e(x, y), e(y, z), e(z, x)", "e(1, 1)", "e(1, 2), e(2, 3), e(3, 1)")
        self.check('[] e("a", x), e(x, y)', 'e(1, 1), e("a", 1)', 'e(1, 2), e("a", 1)')
        self.check('[] e("a", x), e(x, y); [] e(1, 2)', "e(1, 1), e(\"a\", 1)", "e(1, 2)")

    def test_several_joins(self):
        self.check("[] r(2); [] s(1, 5)", "r(2)", "s(1, 5)")
        self.check("[] s(1, 5); [] r(2); [] s(1, 5)", "r(2)", "s(1, 5)")
        self.check("[] r(x), s(x, 7); [] e(x, x)", "e(1, 1)", "r(1), s(1, 7)")

    def test_repeated_variables_and_values(self):
        self.check("[] e(x, x)", "e(1, 1)")
        self.check("[] s(x, x), r(x)", 'r("a"), s("a", "a")')
        self.check("[] e(1, x), e(x, 3)", "e(1, 2), e(2, 3)")
        self.check("[] e(x, 1), e(1, x)", "e(1, 1)")

    def test_the_order_of_the_places_in_a_lot(self):
        self.check("[] s(x, 5), r(x), e(x, y)", "e(1, 1), r(1), s(1, 5)", "e(1, 2), r(1), s(1, 5)",
                   "e(2, 3), r(2), s(2, 5)")
        self.check('[] r("a"), r(-5), r(1)', 'r(-5), r(1), r("a")')

    def test_the_order_of_the_lots(self):
        self.check('[] r("a"); [] s(1, 5); [] e(2, 3)', "e(2, 3)", 'r("a")', "s(1, 5)")
        self.check("[] r(1), s(2, 5); [] r(1), s(1, 5), s(1, 7)", "r(1), s(1, 5), s(1, 7)", "r(1), s(2, 5)")
        self.check("[] r(2), s(1, 5); [] r(1), s(2, 5)", "r(1), s(2, 5)", "r(2), s(1, 5)")
        self.check("[] r(1), r(2); [] r(-5)", "r(-5)", "r(1), r(2)")

    def test_the_example_of_the_document(self):
        schema = (("r", 1), ("s", 2))
        store = (("r", (1,), (1, 2)), ("r", (2,), (1, 2)), ("s", (1, 5), (1, 3)))
        found = smallest_lots(store, read_question(schema, "[] r(x), s(x, y)"))
        self.assertEqual(found, ((("r", (1,)), ("s", (1, 5))),))

    def test_random_questions(self):
        source = random.Random(61)
        sizes = set()
        for _ in range(600):
            store, question = random_case(source, 9)
            found = smallest_lots(store, question)
            sizes.add(len(found))
            with self.subTest(store=store, question=question):
                self.assertEqual(found, plain_lots(store, question))
        self.assertGreater(len(sizes), 6)

    def test_the_question_holds_where_all_places_of_a_lot_are_there(self):
        source = random.Random(62)
        for _ in range(60):
            store, question = random_case(source, 6)
            lots = smallest_lots(store, question)
            for world, _ in worlds_with_chances(store):
                self.assertIs(holds(world, question), any(set(lot) <= set(world) for lot in lots))


class TestManyLots(unittest.TestCase):
    """Stores with many facts, in good time."""

    def test_the_same_table_in_eight_atoms(self):
        store = tuple([("r", (k,), (1, 2)) for k in range(200)])
        question = (0, (closed(*[atom("r", x) for x in "abcdefgh"]),))
        self.assertEqual(smallest_lots(store, question), tuple([(fact[:2],) for fact in store]))

    def test_atoms_without_a_common_variable(self):
        store = tuple([(name, (k,), (1, 2)) for name in "rs" for k in range(100)])
        found = smallest_lots(store, (0, (closed(atom("r", "x"), atom("s", "y")),)))
        self.assertEqual(len(found), 10000)
        self.assertEqual(found[101], (("r", (1,)), ("s", (1,))))

    def test_circles_among_all_edges(self):
        store = tuple([("e", (a, b), (1, 2)) for a in range(14) for b in range(14) if a != b])
        found = smallest_lots(store, (0, (closed(atom("e", "x", "y"), atom("e", "y", "z"), atom("e", "z", "x")),)))
        self.assertEqual(len(found), 14 * 13 * 12 // 3)


if __name__ == "__main__":
    unittest.main()
