"""The rows that answer, closed questions that hold ([11]), and chances by going through the worlds ([12], [14])."""

import random
import unittest
from fractions import Fraction

from rightchance.plainly import answers, holds, plain_chance
from rightchance.questions import put_row
from tests.oracles import (
    atom, chance_of_question, closed, pair, plain_answers, random_question, random_store, row_order, value, var,
    worlds_with_chances,
)

HUGE = 10 ** 150
X, Y, Z = var("x"), var("y"), var("z")


def places_of(*places):
    return tuple(sorted(places, key=lambda place: (place[0], row_order(place[1]))))


PLACES = places_of(
    ("open", (1,)), ("open", ("a",)), ("rain", ()),
    ("works", (1, 1)), ("works", (1, 2)), ("works", (2, "a")), ("works", ("a", 1)), ("works", ("b", "a")),
)


class TestAnswers(unittest.TestCase):
    def check(self, question, *rows, places=PLACES):
        with self.subTest(question=question):
            self.assertEqual(answers(places, question), rows)
            self.assertEqual(plain_answers(places, question), rows)

    def check_join(self, head, body, *rows, places=PLACES):
        self.check((len(head), ((head, body),)), *rows, places=places)

    def test_questions_without_joins(self):
        for width in (0, 1, 8):
            self.check((width, ()))
            self.check((width, ()), places=())

    def test_joins_without_atoms(self):
        self.check_join((), (), ())
        self.check_join((), (), (), places=())
        self.check_join((value(5), value("a")), (), (5, "a"))
        self.check((1, (((value("b"),), ()), ((value(-3),), ()))), (-3,), ("b",), places=())

    def test_one_atom(self):
        self.check_join((X,), (atom("open", "x"),), (1,), ("a",))
        self.check_join((Y, X), (atom("works", "x", "y"),), (1, 1), (1, "a"), (2, 1), ("a", 2), ("a", "b"))
        self.check_join((X,), (atom("works", "x", "y"),), (1,), (2,), ("a",), ("b",))
        self.check_join((), (atom("rain"),), ())
        self.check_join((), (atom("rain"),), places=PLACES[:2])

    def test_repeated_variables_inside_one_atom(self):
        self.check_join((X,), (atom("works", "x", "x"),), (1,))
        self.check_join((), (atom("works", "x", "x"),), places=PLACES[4:])
        wide = places_of(("r", (1, 2, 1)), ("r", (1, 1, 2)), ("r", (2, 1, 1)), ("r", ("a", 1, "a")), ("r", (2, 2, 2)))
        self.check_join((X, Y), (atom("r", "x", "y", "x"),), (1, 2), (2, 2), ("a", 1), places=wide)
        self.check_join((X,), (atom("r", "x", "x", "x"),), (2,), places=wide)

    def test_repeated_variables_over_several_atoms(self):
        self.check_join((X, Y), (atom("open", "x"), atom("works", "x", "y")), (1, 1), (1, 2), ("a", 1))
        self.check_join((X, Y), (atom("works", "x", "y"), atom("works", "y", "x")), (1, 1))
        self.check_join((X, Z), (atom("works", "x", "y"), atom("works", "y", "z")),
                        (1, 1), (1, 2), (1, "a"), (2, 1), ("a", 1), ("a", 2), ("b", 1))

    def test_values_in_atoms(self):
        self.check_join((X,), (atom("works", 1, "x"),), (1,), (2,))
        self.check_join((X,), (("works", (X, value("a"))),), (2,), ("b",))
        self.check_join((), (atom("works", 1, 2),), ())
        self.check_join((), (atom("works", 2, 1),))
        self.check_join((X,), (atom("open", "x"), ("works", (value("b"), X))), ("a",))

    def test_values_in_heads(self):
        self.check_join((value(7), X), (atom("open", "x"),), (7, 1), (7, "a"))
        self.check_join((value("x"),), (atom("open", "x"),), ("x",))
        self.check_join((X, value(1), X), (atom("open", "x"),), (1, 1, 1), ("a", 1, "a"))
        self.check_join((value(7),), (atom("works", 2, 1),))

    def test_the_same_table_in_several_atoms(self):
        self.check_join((X, Y), (atom("open", "x"), atom("open", "y")), (1, 1), (1, "a"), ("a", 1), ("a", "a"))
        self.check_join((X,), (atom("works", "x", "y"), atom("works", "x", "z"), ("works", (Z, Y))), (1,), ("a",))

    def test_integers_and_words_in_the_same_place(self):
        places = places_of(("r", (1, "a")), ("r", ("a", 1)), ("s", (1,)))
        self.check_join((X,), (atom("s", "x"), atom("r", "x", "y")), (1,), places=places)
        self.check_join((X,), (atom("r", "x", "x"),), places=places)
        self.check_join((X, Y), (atom("r", "x", "y"),), (1, "a"), ("a", 1), places=places)

    def test_no_places(self):
        self.check_join((X,), (atom("open", "x"),), places=())
        self.check_join((), (atom("rain"),), places=())

    def test_rows_stand_once_and_in_ascending_order(self):
        first = ((X,), (atom("open", "x"),))
        second = ((Y,), (atom("works", "x", "y"),))
        third = ((value(HUGE),), (atom("rain"),))
        self.check((1, (third, first, second, first, ((value(-HUGE),), ()))), (-HUGE,), (1,), (2,), (HUGE,), ("a",))

    def test_variables_without_a_common_column(self):
        head = (X, Y)
        self.check_join(head, (atom("open", "x"), atom("works", 1, "y")), (1, 1), (1, 2), ("a", 1), ("a", 2))
        self.check_join((X,), (atom("open", "x"), atom("works", "y", "z")), (1,), ("a",))
        self.check_join((X,), (atom("open", "x"), atom("works", 7, "z")))

    def test_results_are_tuples(self):
        self.assertEqual(repr(answers(PLACES, (1, (((X,), (atom("open", "x"),)),)))), "((1,), ('a',))")

    def test_random_questions(self):
        source = random.Random(11)
        schema = (("r", 2), ("s", 1), ("t", 0), ("u", 3))
        for _ in range(400):
            places = tuple([fact[:2] for fact in random_store(source, schema, 9)])
            question = random_question(source, schema)
            with self.subTest(places=places, question=question):
                self.assertEqual(answers(places, question), plain_answers(places, question))

    def test_many_places_in_good_time(self):
        names = ("a", "b", "c", "d", "e", "f", "g", "h")
        places = places_of(*[(name, (k,)) for name in names for k in range(25)])
        body = tuple([atom(name, "x" + name) for name in names])
        self.assertEqual(answers(places, (0, (((), body),))), ((),))
        self.assertEqual(answers(places, (1, (((var("xd"),), body),))), tuple([(k,) for k in range(25)]))
        chain = places_of(*[("r", (k, k + 1)) for k in range(200)])
        body = tuple([atom("r", "x" + names[k], "x" + names[k + 1]) for k in range(7)])
        rows = tuple([(k, k + 7) for k in range(194)])
        self.assertEqual(answers(chain, (2, (((var("xa"), var("xh")), body),))), rows)
        lone = tuple([atom(name, "x" + name) for name in "abcdef"])
        linked = [place for place in places if place[0] in "abcdef"]
        linked.extend([("z", (3, 4, 5, 6, 7, k)) for k in range(20, 30)])
        body = lone + (atom("z", *["x" + name for name in "abcdef"]),)
        rows = tuple([(k,) for k in range(20, 25)])
        self.assertEqual(answers(places_of(*linked), (1, (((var("xf"),), body),))), rows)


class TestHolds(unittest.TestCase):
    def check(self, expected, *bodies, places=PLACES):
        with self.subTest(bodies=bodies):
            self.assertIs(holds(places, (0, tuple([((), body) for body in bodies]))), expected)

    def test_questions_without_joins(self):
        self.check(False)
        self.check(False, places=())

    def test_joins_without_atoms(self):
        self.check(True, ())
        self.check(True, (), places=())
        self.check(True, (atom("works", 7, 7),), ())

    def test_some_join_is_enough(self):
        self.check(True, (atom("rain"),), (atom("open", 5),))
        self.check(True, (atom("open", 5),), (atom("rain"),))
        self.check(False, (atom("open", 5),), (atom("open", 6),))

    def test_all_atoms_are_needed(self):
        self.check(True, (atom("rain"), atom("open", 1)))
        self.check(False, (atom("rain"), atom("open", 5)))
        self.check(False, (atom("open", 5), atom("rain")))
        self.check(False, (atom("rain"), atom("snow")))

    def test_variables(self):
        self.check(True, (atom("works", "x", "x"),))
        self.check(True, (atom("open", "x"), ("works", (value("b"), X))))
        self.check(False, (atom("open", "x"), atom("works", 2, "x"), atom("works", 1, "x")))
        self.check(False, (atom("works", "x", "y"), atom("works", "y", "z"), atom("works", "z", 5)))
        self.check(True, (atom("open", "x"), atom("open", "y"), atom("works", "x", "y")))

    def test_no_places(self):
        self.check(False, (atom("rain"),), places=())
        self.check(False, (atom("open", "x"),), places=())

    def test_random_questions(self):
        source = random.Random(12)
        schema = (("r", 2), ("s", 1), ("t", 0))
        seen = []
        for _ in range(400):
            places = tuple([fact[:2] for fact in random_store(source, schema, 5)])
            question = random_question(source, schema, 0)
            seen.append(holds(places, question))
            with self.subTest(places=places, question=question):
                self.assertIs(seen[-1], plain_answers(places, question) == ((),))
        self.assertIn(True, seen)
        self.assertIn(False, seen)


STORE = (("r", (1,), (1, 2)), ("r", (2,), (1, 3)), ("s", (1, "a"), (3, 5)), ("s", (2, 7), (1, 1)), ("t", (), (0, 1)))


class TestPlainChance(unittest.TestCase):
    def check(self, chance, *bodies, store=STORE):
        question = (0, tuple([((), body) for body in bodies]))
        with self.subTest(question=question):
            self.assertEqual(plain_chance(store, question), chance)
            self.assertEqual(pair(chance_of_question(store, question)), chance)

    def test_the_empty_store(self):
        self.check((0, 1), store=())
        self.check((1, 1), (), store=())
        self.check((0, 1), (atom("r", "x"),), store=())

    def test_questions_that_hold_in_every_world_and_in_none(self):
        self.check((1, 1), ())
        self.check((1, 1), (atom("r", "x"),), ())
        self.check((0, 1))
        self.check((0, 1), (atom("r", 9),))
        self.check((0, 1), (atom("u"),))

    def test_the_chances_zero_and_one(self):
        self.check((0, 1), (atom("t"),))
        self.check((1, 1), (atom("s", "x", "y"),))
        self.check((1, 1), (atom("t"),), (atom("s", 2, "y"),))
        self.check((0, 1), (atom("t"), atom("s", 2, "y")))

    def test_facts_and_their_unions(self):
        self.check((1, 2), (atom("r", 1),))
        self.check((2, 3), (atom("r", "x"),))
        self.check((1, 6), (atom("r", 1), atom("r", 2)))
        self.check((2, 3), (atom("r", 1),), (atom("r", 2),))

    def test_joins(self):
        self.check((8, 15), (atom("r", "x"), atom("s", "x", "y")))
        self.check((3, 10), (atom("r", "x"), ("s", (X, value("a")))))

    def test_random_questions(self):
        source = random.Random(13)
        schema = (("r", 2), ("s", 1), ("t", 0))
        for _ in range(120):
            store = random_store(source, schema, 7)
            question = random_question(source, schema, 0)
            with self.subTest(store=store, question=question):
                self.assertEqual(plain_chance(store, question), pair(chance_of_question(store, question)))

    def test_the_chances_of_rows(self):
        source = random.Random(14)
        schema = (("r", 2), ("s", 1))
        for _ in range(40):
            store = random_store(source, schema, 6)
            question = random_question(source, schema, 1)
            for row in ((1,), (2,), ("a",), (9,)):
                expected = Fraction(0)
                for world, chance in worlds_with_chances(store):
                    if row in plain_answers(world, question):
                        expected += chance
                self.assertEqual(plain_chance(store, put_row(question, row)), pair(expected))

    def test_many_facts_that_are_there_or_missing_for_sure(self):
        sure = [("s", (k, k + 1), (k % 2, 1)) for k in range(150)]
        store = tuple(sorted(sure + [("r", (1,), (1, 2)), ("r", (3,), (1, 3)), ("r", (4,), (1, 5))]))
        self.assertEqual(plain_chance(store, (0, (closed(atom("r", "x"), atom("s", "x", "y")),))), (2, 3))

    def test_long_chances(self):
        n, d = 10 ** 59 - 1, 10 ** 59
        store = (("r", (1,), (n, d)), ("r", (2,), (n, d)))
        self.assertEqual(plain_chance(store, (0, (closed(atom("r", "x")),))), (d * d - 1, d * d))


if __name__ == "__main__":
    unittest.main()
