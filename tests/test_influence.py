"""Places that are there or missing ([32]), chances of and given other questions ([33]), and best worlds ([34])."""

import random
import unittest
from fractions import Fraction

from rightchance.chance import chance_of
from rightchance.errors import NoChance, NoFact
from rightchance.influence import best_world, chance_given, chance_if, chance_of_both, influence_of, ranked_places
from rightchance.reading import read_book, read_question
from rightchance.tables import make_store
from rightchance.worlds import chance_of_world
from tests.oracles import (
    atom, chance_of_question, closed, pair, plain_answers, random_case, random_question, worlds_with_chances,
)

HALF = (1, 2)
HUGE = 10 ** 150
SCHEMA, STORE = read_book("\n".join((
    "table q 0", "table r 1", "table s 2",
    "r(1) 1/2", "r(2) 1/1", "r(3) 0/1", 'r("a") 1/3', "s(1, 1) 1/4", "s(2, 1) 2/5", "s(3, 1) 1/2", "s(4, 4) 2/3",
)))
RS = "[] r(x), s(x, y)"


def question_for(text):
    return read_question(SCHEMA, text)


def with_chance(store, place, chance):
    """The store in which the fact of the place has the chance, or without it if the chance is None."""
    facts = [fact for fact in store if fact[:2] != place]
    return make_store(SCHEMA, facts + ([] if chance is None else [place + (chance,)]))


class TestChanceIf(unittest.TestCase):
    def check(self, text, place, there, missing):
        question = question_for(text)
        name, row = place
        with self.subTest(text=text, place=place):
            self.assertEqual(chance_if(STORE, question, name, row, 1), there)
            self.assertEqual(chance_if(STORE, question, name, row, 0), missing)
            self.assertEqual(chance_of(with_chance(STORE, place, (1, 1)), question), there)
            self.assertEqual(chance_of(with_chance(STORE, place, None), question), missing)
            influence = Fraction(*there) - Fraction(*missing)
            self.assertEqual(influence_of(STORE, question, name, row), pair(influence))

    def test_ordinary_facts(self):
        self.check("[] r(1)", ("r", (1,)), (1, 1), (0, 1))
        self.check('[] r(1); [] r("a")', ("r", (1,)), (1, 1), (1, 3))
        self.check('[] r(1), r("a")', ("r", (1,)), (1, 3), (0, 1))
        self.check(RS, ("r", (1,)), (11, 20), (2, 5))
        self.check(RS, ("s", (2, 1)), (1, 1), (1, 8))

    def test_facts_with_the_chance_zero(self):
        self.check("[] r(3)", ("r", (3,)), (1, 1), (0, 1))
        self.check(RS, ("r", (3,)), (59, 80), (19, 40))
        self.check("[] r(x), r(1)", ("r", (3,)), HALF, HALF)

    def test_facts_with_the_chance_one(self):
        self.check("[] r(2)", ("r", (2,)), (1, 1), (0, 1))
        self.check(RS, ("r", (2,)), (19, 40), (1, 8))
        self.check("[] r(x)", ("r", (2,)), (1, 1), (2, 3))
        self.check("[] r(x)", ("r", (1,)), (1, 1), (1, 1))

    def test_places_that_matter_to_no_lot(self):
        self.check("[] r(1)", ("r", ("a",)), HALF, HALF)
        self.check(RS, ("s", (4, 4)), (19, 40), (19, 40))
        self.check("none 0", ("r", (1,)), (0, 1), (0, 1))
        self.check("[]", ("r", (1,)), (1, 1), (1, 1))
        self.check("[] r(1); [] r(1), s(2, 1)", ("s", (2, 1)), HALF, HALF)

    def test_the_example_of_the_document(self):
        store = (("r", (1,), (1, 2)), ("r", (2,), (1, 3)))
        question = question_for("[] r(x)")
        self.assertEqual(chance_if(store, question, "r", (1,), 0), (1, 3))
        self.assertEqual(influence_of(store, question, "r", (1,)), (2, 3))
        self.assertEqual(best_world(store, question), (("r", (1,)),))

    def test_places_without_a_fact(self):
        question = question_for(RS)
        for store in (STORE, ()):
            for name, row in (("r", (4,)), ("q", ()), ("s", (1, 2)), ("s", (1,)), ("t", (1,)), ("r", ("b",)), ("", ()),
                              ("r", (HUGE,)), ("R", (1,)), ("r", ("A",)), ("r", (1, 1))):
                calls = [lambda there=there: chance_if(store, question, name, row, there) for there in (0, 1)]
                for call in calls + [lambda: influence_of(store, question, name, row)]:
                    with self.subTest(name=name, row=row), self.assertRaises(NoFact) as caught:
                        call()
                    self.assertIs(type(caught.exception), NoFact)

    def test_random_questions(self):
        source = random.Random(101)
        above = 0
        for _ in range(150):
            store, question = random_case(source, 6)
            for index, (name, row, chance) in enumerate(store):
                there = chance_of_question(store[:index] + ((name, row, (1, 1)),) + store[index + 1:], question)
                missing = chance_of_question(store[:index] + store[index + 1:], question)
                with self.subTest(store=store, question=question, name=name, row=row):
                    self.assertEqual(chance_if(store, question, name, row, 1), pair(there))
                    self.assertEqual(chance_if(store, question, name, row, 0), pair(missing))
                    self.assertEqual(influence_of(store, question, name, row), pair(there - missing))
                    p = Fraction(*chance)
                    self.assertEqual(chance_of(store, question), pair(p * there + (1 - p) * missing))
                above += there > missing
        self.assertGreater(above, 40)


class TestRankedPlaces(unittest.TestCase):
    def check(self, store, question):
        ranked = ranked_places(store, question)
        with self.subTest(store=store, question=question):
            influences = {fact[:2]: influence_of(store, question, *fact[:2]) for fact in store}
            order = sorted(range(len(store)), key=lambda k: (-Fraction(*influences[store[k][:2]]), k))
            self.assertEqual(ranked, tuple([(influences[store[k][:2]], store[k][:2]) for k in order]))

    def test_the_empty_store(self):
        self.assertEqual(ranked_places((), question_for(RS)), ())

    def test_equal_influences_are_in_the_order_of_the_places(self):
        store = tuple([("r", (v,), HALF) for v in (-2, 5, "a", "ab", "b")])
        expected = tuple([((1, 16), fact[:2]) for fact in store])
        self.assertEqual(ranked_places(store, question_for("[] r(x)")), expected)

    def test_none_is_left_out(self):
        ranked = ranked_places(STORE, question_for("[] s(2, x), r(2)"))
        first = [((1, 1), ("s", (2, 1))), ((2, 5), ("r", (2,)))]
        others = [((0, 1), fact[:2]) for fact in STORE if fact[:2] not in (("s", (2, 1)), ("r", (2,)))]
        self.assertEqual(ranked, tuple(first + others))
        for text in ("none 0", "[]", "[] q()"):
            self.assertEqual(ranked_places(STORE, question_for(text)), tuple([((0, 1), fact[:2]) for fact in STORE]))

    def test_influences_that_differ_by_little(self):
        big = 10 ** 59
        store = (("r", (1,), (1, big)), ("r", (2,), (2, big + 1)), ("r", (3,), (1, big)))
        self.check(store, question_for("[] r(x)"))
        self.assertEqual([place[1] for _, place in ranked_places(store, question_for("[] r(x)"))], [(2,), (1,), (3,)])

    def test_random_questions(self):
        source = random.Random(102)
        for _ in range(150):
            self.check(*random_case(source, 9))

    def test_many_facts_in_good_time(self):
        store = [("r", (k,), (1, k + 2)) for k in range(40)]
        store += [("s", (k, n), HALF) for k in range(40) for n in range(4)]
        ranked = ranked_places(tuple(store), question_for(RS))
        self.assertEqual(len(ranked), 200)
        self.assertEqual(ranked[0][1], ("r", (0,)))


class TestTwoQuestions(unittest.TestCase):
    def check(self, text, other_text, both):
        question, other = question_for(text), question_for(other_text)
        with self.subTest(text=text, other=other_text):
            self.assertEqual(chance_of_both(STORE, question, other), both)
            self.assertEqual(chance_of_both(STORE, other, question), both)
            self.check_given(question, other, both)
            self.check_given(other, question, both)

    def check_given(self, question, other, both):
        chance = Fraction(*chance_of(STORE, other))
        if chance:
            self.assertEqual(chance_given(STORE, question, other), pair(Fraction(*both) / chance))
        else:
            with self.assertRaises(NoChance) as caught:
                chance_given(STORE, question, other)
            self.assertIs(type(caught.exception), NoChance)

    def test_questions_that_share_no_fact(self):
        self.check("[] r(1)", '[] r("a")', (1, 6))
        self.check("[] r(1)", "[] s(4, x)", (1, 3))
        self.check("[] r(1)", "[] r(2)", HALF)

    def test_questions_that_share_facts(self):
        self.check("[] r(1)", RS, (11, 40))
        self.check("[] r(1), s(4, x)", '[] r(1), r("a")', (1, 9))
        self.check('[] r(1); [] r("a")', "[] r(1); [] s(4, 4)", (11, 18))

    def test_a_question_with_itself(self):
        for text in (RS, "[] r(1)", "[] r(x)", "[] s(x, 1); [] r(1)"):
            question = question_for(text)
            chance = chance_of(STORE, question)
            self.check(text, text, chance)
            self.assertEqual(chance_given(STORE, question, question), (1, 1))

    def test_questions_that_hold_in_every_world_and_in_none(self):
        self.check("[]", "[] r(1)", HALF)
        self.check("[]", "[]", (1, 1))
        self.check("none 0", "[] r(1)", (0, 1))
        self.check("none 0", "none 0", (0, 1))
        self.check("[]", "none 0", (0, 1))
        self.check("[] r(3)", "[] r(1)", (0, 1))

    def test_no_chance_exactly_if_the_chance_of_the_other_one_is_zero(self):
        for text in ("none 0", "[] r(3)", "[] q()", "[] r(3), s(3, 1); [] r(4)"):
            for question in ("[]", "none 0", "[] r(1)", text):
                with self.assertRaises(NoChance):
                    chance_given(STORE, question_for(question), question_for(text))
            self.assertEqual(chance_given(STORE, question_for(text), question_for("[] r(1)")), (0, 1))

    def test_random_questions(self):
        source = random.Random(103)
        none = between = 0
        for _ in range(250):
            store, question = random_case(source, 6)
            other = random_question(source, (("r", 2), ("s", 1), ("t", 0)), 0)
            both = whole = Fraction(0)
            for world, chance in worlds_with_chances(store):
                if plain_answers(world, other):
                    whole += chance
                    both += chance if plain_answers(world, question) else 0
            with self.subTest(store=store, question=question, other=other):
                self.assertEqual(chance_of_both(store, question, other), pair(both))
                if whole:
                    self.assertEqual(chance_given(store, question, other), pair(both / whole))
                    between += 0 < both < whole
                else:
                    self.assertRaises(NoChance, chance_given, store, question, other)
                    none += 1
        self.assertGreater(min(none, between), 15)

    def test_as_many_joins_as_there_may_be(self):
        store = tuple([("r", (k,), (1, 3)) for k in range(100)])
        question, other = [(0, tuple([closed(atom("r", k)) for k in numbers])) for numbers in (range(8), range(4, 12))]
        some = 1 - Fraction(2, 3) ** 4
        expected = some + (1 - some) * some * some
        self.assertEqual(chance_of_both(store, question, other), pair(expected))


class TestBestWorld(unittest.TestCase):
    def check(self, store, question):
        world = best_world(store, question)
        with self.subTest(store=store, question=question, world=world):
            good = {other: chance for other, chance in worlds_with_chances(store) if plain_answers(other, question)}
            if not good:
                self.assertIsNone(world)
            else:
                self.assertEqual(good[world], max(good.values()))
        return world

    def check_text(self, text, *places, store=STORE):
        self.assertEqual(self.check(store, question_for(text)), places)

    def test_questions_that_hold_in_every_world(self):
        store = (("r", (1,), (1, 3)), ("r", (2,), (2, 3)), ("r", (3,), (0, 1)), ("r", (4,), (1, 1)))
        self.check_text("[]", ("r", (2,)), ("r", (4,)), store=store)
        self.check_text("[]; [] r(1)", ("r", (2,)), ("r", (4,)), store=store)
        self.check_text("[]", store=())

    def test_questions_that_hold_in_no_world(self):
        for text in ("none 0", "[] q()", "[] r(5)", "[] s(x, x), r(x), s(4, x), q()"):
            self.assertIsNone(best_world(STORE, question_for(text)))
            self.assertIsNone(best_world((), question_for(text)))

    def test_the_fact_that_costs_least(self):
        store = (("r", (1,), (1, 5)), ("r", (2,), (1, 3)), ("r", (3,), (1, 4)), ("s", (1, 1), (3, 4)))
        self.check_text("[] r(x)", ("r", (2,)), ("s", (1, 1)), store=store)
        self.check_text("[] r(1); [] r(3)", ("r", (3,)), ("s", (1, 1)), store=store)
        self.check_text("[] r(1), s(1, 1); [] r(2), r(3)", ("r", (1,)), ("s", (1, 1)), store=store)
        self.check_text("[] r(1), r(2); [] r(2), r(3)", ("r", (2,)), ("r", (3,)), ("s", (1, 1)), store=store)

    def test_two_facts_that_cost_less_than_one(self):
        # 1/2 times 1/2 of its chance is left to the world with the two facts, and 1/5 to that with the one.
        store = (("r", (1,), (1, 6)), ("r", (2,), (1, 3)), ("r", (3,), (1, 3)))
        self.check_text("[] r(1); [] r(2), r(3)", ("r", (2,)), ("r", (3,)), store=store)
        store = (("r", (1,), (2, 9)), ("r", (2,), (1, 3)), ("r", (3,), (1, 3)))
        self.check_text("[] r(1); [] r(2), r(3)", ("r", (1,)), store=store)

    def test_facts_that_are_likely_cost_nothing(self):
        store = (("r", (1,), (2, 3)), ("r", (2,), (3, 4)), ("r", (3,), (1, 3)))
        self.check_text("[] r(1), r(2); [] r(3)", ("r", (1,)), ("r", (2,)), store=store)

    def test_worlds_whose_chance_is_zero(self):
        store = (("r", (1,), (0, 1)), ("r", (2,), (2, 3)))
        world = self.check(store, question_for("[] r(1)"))
        self.assertIn(("r", (1,)), world)
        self.assertEqual(chance_of_world(store, world), (0, 1))
        store = (("r", (1,), (0, 1)), ("r", (2,), (0, 1)), ("s", (1, 1), (1, 9)))
        self.check(store, question_for("[] r(x), s(x, y)"))
        self.check(store, question_for("[] r(1), r(2); [] r(1), s(1, 1)"))

    def test_a_lot_whose_chance_is_zero_beside_another_one(self):
        store = (("r", (1,), (0, 1)), ("r", (2,), (1, 99)))
        self.check_text("[] r(x)", ("r", (2,)), store=store)

    def test_random_questions(self):
        source = random.Random(104)
        none = 0
        for _ in range(500):
            none += self.check(*random_case(source, 7)) is None
        self.assertGreater(none, 50)

    def test_random_joins_of_several_parts(self):
        source = random.Random(105)
        names = ("x", "y", "z", "w", 1, 2)
        for _ in range(200):
            store = tuple([(name, (a, b), source.choice((HALF, (1, 3), (2, 5), (1, 1), (0, 1)))) for name in "rs"
                           for a in (1, 2) for b in (1, 2) if source.random() < 0.8])
            body = [atom(source.choice("rs"), source.choice(names), source.choice(names)) for _ in range(4)]
            self.check(store, (0, (closed(*body),)))

    def test_many_facts_in_good_time(self):
        store = tuple([(name, (k,), (1, k + 3)) for name in "abcdefgh" for k in range(25)])
        question = (0, (closed(*[atom(name, name) for name in "abcdefgh"]),))
        self.assertEqual(best_world(store, question), tuple([(name, (0,)) for name in "abcdefgh"]))
        store = tuple([("r", (k,), (1, 203 - k)) for k in range(200)])
        question = (0, (closed(*[atom("r", name) for name in "abcdefgh"]),))
        self.assertEqual(best_world(store, question), (("r", (199,)),))


if __name__ == "__main__":
    unittest.main()
