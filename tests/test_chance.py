"""The chances of closed questions and of rows ([12], [14]), and answers in number ([40])."""

import random
import unittest
from fractions import Fraction

from rightchance.chance import chance_of, chances_of, counts_of, mean_of
from rightchance.plainly import plain_chance
from rightchance.questions import put_row
from rightchance.reading import read_book, read_question
from rightchance.shares import any_of, make_share, product_of
from tests.lot_oracles import chances_by_worlds, shares_by_worlds
from tests.oracles import atom, chance_of_question, closed, pair, random_case, row_order, var

HALF = (1, 2)
TEXT = "\n".join((
    "table e 2", "table q 0", "table r 1", "table s 2",
    "e(1, 1) 1/7", "e(1, 2) 1/2", "e(2, 1) 2/3",
    "r(-5) 0/1", "r(1) 1/2", "r(2) 1/1", 'r("a") 1/3',
    "s(1, 5) 1/3", "s(1, 7) 0/1", "s(2, 5) 1/4", 's("a", "a") 3/5',
))
SCHEMA, STORE = read_book(TEXT)


def sum_of(shares):
    total = sum([Fraction(n, d) for n, d in shares], Fraction(0))
    return pair(total)


class TestChanceOf(unittest.TestCase):
    def check(self, chance, text, store=STORE):
        question = read_question(SCHEMA, text)
        with self.subTest(text):
            self.assertEqual(chance_of(store, question), chance)
            self.assertEqual(plain_chance(store, question), chance)

    def test_questions_that_hold_in_every_world(self):
        for store in ((), STORE):
            self.check((1, 1), "[]", store)
            self.check((1, 1), "[] r(1); []", store)
        self.check((1, 1), "[] r(2)")
        self.check((1, 1), "[] r(x)")
        self.check((1, 1), "[] e(1, 2), e(1, 1); [] r(2)")

    def test_questions_that_hold_in_no_world(self):
        self.check((0, 1), "none 0")
        self.check((0, 1), "[] q()")
        self.check((0, 1), "[] r(3)")
        self.check((0, 1), "[] r(-5)")
        self.check((0, 1), "[] s(x, 7), r(x)")
        self.check((0, 1), "[] q(), r(2); [] r(-5), r(2)")

    def test_the_empty_store(self):
        self.check((0, 1), "none 0", ())
        self.check((0, 1), "[] r(x)", ())
        self.check((0, 1), "[] q(); [] s(1, x), r(x)", ())

    def test_single_joins(self):
        self.check((1, 2), "[] r(1)")
        self.check((1, 2), "[] r(1), r(2)")
        self.check((1, 6), '[] r(1), r("a")')
        self.check((1, 2), "[] s(x, 5)")
        self.check((7, 12), "[] r(x), s(x, 5); [] r(\"a\")")
        self.check((1, 4), "[] r(x), s(2, 5)")

    def test_several_joins(self):
        self.check((2, 3), '[] r(1); [] r("a")')
        self.check((2, 3), '[] r(1); [] r("a"); [] r(1), r("a")')
        self.check((3, 8), "[] r(1), s(2, 5); [] r(1), e(2, 1)")

    def test_the_same_table_in_several_atoms(self):
        self.check((1, 3), "[] e(1, 2), e(2, 1)")
        self.check((3, 7), "[] e(x, y), e(y, x)")
        self.check((3, 7), "[] e(x, y), e(y, z), e(z, w), e(w, x)")
        self.check((1, 1), "[] r(x), r(y), r(z)")

    def test_the_example_of_the_document(self):
        store = (("r", (1,), (1, 2)), ("r", (2,), (1, 3)))
        self.check((2, 3), "[] r(x)", store)

    def test_random_questions(self):
        source = random.Random(81)
        counts = {"none": 0, "all": 0, "some": 0}
        for _ in range(500):
            store, question = random_case(source, 8)
            expected = chance_of_question(store, question)
            counts[{0: "none", 1: "all"}.get(expected, "some")] += 1
            with self.subTest(store=store, question=question):
                self.assertEqual(chance_of(store, question), pair(expected))
        self.assertGreater(min(counts.values()), 50)

    def test_joins_of_many_atoms(self):
        source = random.Random(82)
        names = ("x", "y", "z", "w", 1)
        some = 0
        for _ in range(250):
            store = tuple([(name, (a, b), source.choice((HALF, (1, 3), (1, 1), (0, 1)))) for name in "rs"
                           for a in (1, 2) for b in (1, 2, "a") if source.random() < 0.7])
            bodies = [[atom(source.choice("rs"), source.choice(names), source.choice(names))
                       for _ in range(source.randint(2, 5))] for _ in range(source.randint(1, 3))]
            question = (0, tuple([closed(*body) for body in bodies]))
            chance = chance_of(store, question)
            some += chance not in ((0, 1), (1, 1))
            self.assertEqual(chance, plain_chance(store, question))
        self.assertGreater(some, 100)


class TestManyFacts(unittest.TestCase):
    """Stores with many facts, in good time."""

    def check(self, chance, store, *joins):
        self.assertEqual(chance_of(tuple(store), (0, joins)), chance)

    def test_one_atom(self):
        self.check(any_of([(1, 3)] * 200), [("r", (k,), (1, 3)) for k in range(200)], closed(atom("r", "x")))
        self.check(product_of([(1, 3)] * 8), [("r", (k,), (1, 3)) for k in range(200)],
                   closed(*[atom("r", k) for k in range(8)]))

    def test_long_chances(self):
        big = 10 ** 59
        store = [("r", (k,), make_share(big - 2 * k - 1, big)) for k in range(200)]
        self.check(any_of([fact[2] for fact in store]), store, closed(atom("r", "x")))

    def test_atoms_without_a_common_variable(self):
        store = [(name, (k,), HALF) for name in "abcdefgh" for k in range(25)]
        some = any_of([HALF] * 25)
        self.check(product_of([some] * 8), store, closed(*[atom(name, name) for name in "abcdefgh"]))
        two = closed(*[atom(name, name) for name in "abcd"]), closed(*[atom(name, name) for name in "efgh"])
        self.check(any_of([product_of([some] * 4)] * 2), store, *two)
        three = closed(*[atom(name, name) for name in "abcdef"]), closed(atom("a", "x"), atom("g", "y"), atom("h", "z"))
        both = product_of([some, any_of([product_of([some] * 5), product_of([some] * 2)])])
        self.check(both, store, *three)

    def test_the_same_table_again_and_again(self):
        store = [("r", (k,), (1, 5)) for k in range(200)]
        self.check(any_of([(1, 5)] * 200), store, closed(*[atom("r", name) for name in "abcdefgh"]))

    def test_a_hierarchical_join(self):
        store = [("r", (k,), HALF) for k in range(20)]
        store += [("s", (k, n), (1, 3)) for k in range(20) for n in range(4)]
        store += [("t", (k, n), (1, 4)) for k in range(20) for n in range(5)]
        one = product_of([HALF, any_of([(1, 3)] * 4), any_of([(1, 4)] * 5)])
        join = closed(atom("r", "x"), atom("s", "x", "y"), atom("t", "x", "z"))
        self.check(any_of([one] * 20), store, join)

    def test_many_ways_to_go_on_from_one_value(self):
        store = [(name, (1, k), (1, 5)) for name in "abcdefgh" for k in range(25)]
        join = closed(*[atom(name, "x", name) for name in "abcdefgh"])
        self.check(product_of([any_of([(1, 5)] * 25)] * 8), store, join)

    def test_joins_without_a_right_plan(self):
        join = closed(atom("r", "x"), atom("s", "x", "y"), atom("t", "y"))
        turned = closed(atom("t", "x"), atom("s", "y", "x"), atom("r", "y"))
        for count, other in ((8, 8), (3, 30), (30, 3)):
            r, t = [("r", (k,), HALF) for k in range(count)], [("t", (k,), HALF) for k in range(other)]
            s = [("s", (a, b), (1, 3)) for a in range(count) for b in range(other)]
            expected = 0
            for there in range(count + 1):
                # For so many facts of r that are there, each fact of t joins with one of them with this chance.
                ways = Fraction(1)
                for k in range(there):
                    ways = ways * (count - k) / (k + 1)
                expected += ways / 2 ** count * (1 - (1 - (1 - Fraction(2, 3) ** there) / 2) ** other)
            self.check(pair(expected), r + s + t, join)
            self.check(pair(expected), r + s + t, turned)
            self.check(pair(expected), r + s + t, join, turned)

    def test_a_line_and_a_circle(self):
        # The chance that no two neighbours of a line are both there; with a bridge between them, if it is, too.
        count = 60
        none_last, last = Fraction(1), Fraction(0)
        for _ in range(count):
            none_last, last = (none_last + last) / 2, none_last / 2 + last / 4
        nodes = [("n", (k,), HALF) for k in range(count)]
        edges = [("e", (k, k + 1), HALF) for k in range(count - 1)]
        join = closed(atom("n", "x"), atom("e", "x", "y"), atom("n", "y"))
        self.check(pair(1 - none_last - last), edges + nodes, join)

    def test_ways_along_a_line(self):
        # The chance of a run of some heads in a row.
        store = [("e", (k, k + 1), HALF) for k in range(150)]
        for count in (2, 3, 4):
            runs = [Fraction(1)] + [Fraction(0)] * (count - 1)
            for _ in range(150):
                runs = [sum(runs) / 2] + [chance / 2 for chance in runs[:-1]]
            names = "abcde"
            self.check(pair(1 - sum(runs)), store, closed(*[atom("e", names[k], names[k + 1]) for k in range(count)]))


class TestChancesOf(unittest.TestCase):
    def check(self, text, *pairs, store=STORE):
        question = read_question(SCHEMA, text)
        with self.subTest(text):
            self.assertEqual(chances_of(store, question), pairs)
            expected = {row: pair(chance) for row, chance in chances_by_worlds(store, question).items() if chance}
            self.assertEqual(dict(pairs), expected)

    def test_no_rows(self):
        for width in (0, 1, 8):
            self.check(f"none {width}")
        self.check("[x] s(y, x), q()")
        self.check("[x] r(x)", store=())

    def test_width_zero(self):
        self.check("[] r(1)", ((), (1, 2)))
        self.check("[]", ((), (1, 1)), store=())
        self.check("[] r(-5)")
        self.check("[] r(3)")

    def test_rows_whose_chance_is_zero_are_left_out(self):
        self.check("[x] r(x)", ((1,), (1, 2)), ((2,), (1, 1)), (("a",), (1, 3)))
        self.check("[y] s(x, y)", ((5,), (1, 2)), (("a",), (3, 5)))

    def test_the_order_of_the_rows(self):
        store = tuple([("r", (v,), HALF) for v in (-11, -2, 3, 20, "a", "ab", "b")])
        rows = [((v,), HALF) for v in (-11, -2, 3, 20, "a", "ab", "b")]
        self.check("[x] r(x)", *rows, store=store)
        self.check("[x, y] r(x), r(y)", *[((v, w), HALF if v == w else (1, 4)) for v in (-11, "a", "b")
                                          for w in (-11, "a", "b")], store=(store[0], store[4], store[6]))

    def test_several_joins(self):
        self.check("[x] e(x, y); [y] s(x, y)", ((1,), (4, 7)), ((2,), (2, 3)), ((5,), (1, 2)), (("a",), (3, 5)))

    def test_heads_with_values_and_repeated_variables(self):
        self.check("[3] r(1); [x] r(x); [x] e(x, x)", ((1,), (4, 7)), ((2,), (1, 1)), ((3,), HALF), (("a",), (1, 3)))
        self.check("[x, x] r(x); [x, y] e(x, y)", ((1, 1), (4, 7)), ((1, 2), HALF), ((2, 1), (2, 3)), ((2, 2), (1, 1)),
                   (("a", "a"), (1, 3)))
        self.check('["a", x] r(x), r(1)', (("a", 1), HALF), (("a", 2), HALF), (("a", "a"), (1, 6)))

    def test_random_questions(self):
        source = random.Random(83)
        many = 0
        for _ in range(300):
            store, question = random_case(source, 7, source.randint(0, 2))
            found = chances_of(store, question)
            rows = [row for row, _ in found]
            many += len(rows) > 2
            with self.subTest(store=store, question=question):
                expected = {row: pair(chance) for row, chance in chances_by_worlds(store, question).items() if chance}
                self.assertEqual(dict(found), expected)
                self.assertEqual(rows, sorted(expected, key=row_order))
                for row, chance in found:
                    self.assertEqual(chance, chance_of(store, put_row(question, row)))
        self.assertGreater(many, 10)

    def test_rows_that_cannot_answer_have_the_chance_zero(self):
        question = read_question(SCHEMA, "[x] r(x), s(x, y); [3] q()")
        for row in ((3,), (7,), ("b",), (-5,)):
            self.assertEqual(chance_of(STORE, put_row(question, row)), (0, 1))

    def test_many_rows_in_good_time(self):
        store = tuple([(name, (k,), HALF) for name in "rs" for k in range(40)])
        question = (2, (((var("x"), var("y")), (atom("r", "x"), atom("s", "y"))),))
        self.assertEqual(chances_of(store, question), tuple([((a, b), (1, 4)) for a in range(40) for b in range(40)]))


class TestCountsOf(unittest.TestCase):
    def check(self, text, *pairs, store=STORE):
        question = read_question(SCHEMA, text)
        with self.subTest(text):
            self.assertEqual(counts_of(store, question), pairs)
            expected = {k: pair(share) for k, share in shares_by_worlds(store, question).items() if share}
            self.assertEqual(dict(pairs), expected)
            self.assertEqual(sum_of([share for _, share in pairs]), (1, 1))

    def test_questions_without_answers(self):
        self.check("none 3", (0, (1, 1)))
        self.check("none 0", (0, (1, 1)), store=())
        self.check("[x] r(x)", (0, (1, 1)), store=())
        self.check("[x] e(x, y), q()", (0, (1, 1)))

    def test_width_zero(self):
        self.check("[] r(1)", (0, (1, 2)), (1, (1, 2)))
        self.check("[]", (1, (1, 1)))
        self.check("[] r(-5)", (0, (1, 1)))
        self.check('[] r("a"); [] e(1, 2)', (0, (1, 3)), (1, (2, 3)))

    def test_numbers_whose_share_is_zero_are_left_out(self):
        self.check("[x] r(x)", (1, (1, 3)), (2, (1, 2)), (3, (1, 6)))
        self.check("[1] r(2); [2] r(2); [3] r(2)", (3, (1, 1)))
        self.check("[1] r(1); [2] r(1); [3] r(1)", (0, (1, 2)), (3, (1, 2)))
        self.check("[1] r(1); [2] r(1); [3] r(2)", (1, (1, 2)), (3, (1, 2)))

    def test_rows_that_rest_on_the_same_facts(self):
        self.check("[x, y] e(x, y), e(y, x)", (0, (4, 7)), (1, (2, 21)), (2, (2, 7)), (3, (1, 21)))

    def test_random_questions(self):
        source = random.Random(84)
        lengths = set()
        for _ in range(300):
            store, question = random_case(source, 7, source.randint(0, 2))
            found = counts_of(store, question)
            lengths.add(len(found))
            with self.subTest(store=store, question=question):
                expected = {k: pair(share) for k, share in shares_by_worlds(store, question).items() if share}
                self.assertEqual(found, tuple(sorted(expected.items())))
                self.assertEqual(sum_of([share for _, share in found]), (1, 1))
        self.assertGreater(len(lengths), 4)

    def test_many_facts_in_good_time(self):
        store = tuple([("r", (k,), HALF) for k in range(200)])
        found = counts_of(store, (1, (((var("x"),), (atom("r", "x"),)),)))
        self.assertEqual([k for k, _ in found], list(range(201)))
        ways = 1
        for k, share in found:
            self.assertEqual(share, make_share(ways, 2 ** 200))
            ways = ways * (200 - k) // (k + 1)
        sure = tuple([("r", (k,), (1, 1)) for k in range(200)])
        self.assertEqual(counts_of(sure, (1, (((var("x"),), (atom("r", "x"),)),))), ((200, (1, 1)),))

    def test_many_rows_with_a_common_part_in_good_time(self):
        store = [(name, (k,), HALF) for name in "rt" for k in range(20)]
        store += [("s", (k, n), HALF) for k in range(20) for n in range(4)]
        store = tuple(sorted(store))
        common = (atom("r", "x"), atom("s", "x", "y"))
        none = Fraction(17, 32) ** 20
        question = (1, (((var("z"),), (atom("t", "z"),) + common),))
        shares, ways = {}, 1
        for k in range(21):
            shares[k] = (1 - none) * ways / 2 ** 20
            ways = ways * (20 - k) // (k + 1)
        shares[0] += none
        self.assertEqual(counts_of(store, question), tuple([(k, pair(shares[k])) for k in range(21)]))
        question = (1, tuple([((("value", k),), common) for k in range(8)]))
        self.assertEqual(counts_of(store, question), ((0, pair(none)), (8, pair(1 - none))))

    def test_many_rows_with_common_facts_in_good_time(self):
        store = tuple([(name, (k,), HALF) for name in "rs" for k in range(12)])
        question = (2, (((var("x"), var("y")), (atom("r", "x"), atom("s", "y"))),))
        shares = {}
        binomial = [Fraction(1, 2 ** 12)]
        for k in range(12):
            binomial.append(binomial[-1] * (12 - k) / (k + 1))
        for a in range(13):
            for b in range(13):
                shares[a * b] = shares.get(a * b, 0) + binomial[a] * binomial[b]
        self.assertEqual(counts_of(store, question), tuple([(k, pair(shares[k])) for k in sorted(shares)]))


class TestMeanOf(unittest.TestCase):
    def check(self, text, mean, store=STORE):
        question = read_question(SCHEMA, text)
        with self.subTest(text):
            self.assertEqual(mean_of(store, question), mean)
            self.assertEqual(sum_of([chance for _, chance in chances_of(store, question)]), mean)

    def test_no_rows(self):
        self.check("none 4", (0, 1))
        self.check("none 0", (0, 1), ())
        self.check("[x] r(x)", (0, 1), ())
        self.check("[] r(-5)", (0, 1))

    def test_width_zero(self):
        self.check("[] r(1)", (1, 2))
        self.check("[]", (1, 1))

    def test_means_above_one(self):
        self.check("[x] r(x)", (11, 6))
        self.check("[x, y] e(x, y)", (55, 42))
        self.check("[1] r(2); [2] r(2); [3] r(2); [4] r(2)", (4, 1))

    def test_random_questions(self):
        source = random.Random(85)
        for _ in range(150):
            store, question = random_case(source, 6, source.randint(0, 2))
            shares = shares_by_worlds(store, question)
            expected = sum([k * share for k, share in shares.items()], Fraction(0))
            with self.subTest(store=store, question=question):
                self.assertEqual(mean_of(store, question), pair(expected))


if __name__ == "__main__":
    unittest.main()
