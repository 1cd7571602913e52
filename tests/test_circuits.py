"""Circuits: which are right ([30]), and their numbers ([31])."""

import random
import unittest

from rightchance.circuits import judge_circuit, make_circuit, number_of_circuit
from rightchance.plainly import plain_chance
from tests.lot_oracles import inner_circuits, plain_circuit_number, plain_judgement, places_in_circuit
from tests.oracles import CHANCES, atom, closed, pair, random_case

HALF = (1, 2)
YES, NO = ("yes",), ("no",)
STORE = tuple([("f", (k,), (1, k + 1)) for k in range(1, 8)])


def fact(k):
    return ("fact", "f", (k,))


def either(*circuits):
    return ("any", circuits)


def both(*circuits):
    return ("both", circuits)


def case(k, there, missing):
    return ("case", "f", (k,), there, missing)


A, B, C, D, E = [fact(k) for k in range(1, 6)]


def question_of(*lots):
    """The closed question whose lots are these tuples of numbers k of facts f(k)."""
    return (0, tuple([closed(*[atom("f", k) for k in lot]) for lot in lots]))


class TestJudgeCircuit(unittest.TestCase):
    def check(self, expected, circuit, *lots, store=STORE):
        question = question_of(*lots)
        with self.subTest(circuit=circuit, lots=lots):
            self.assertIs(judge_circuit(store, question, circuit), expected)
            self.assertIs(plain_judgement(store, question, circuit), expected)

    def test_yes(self):
        self.check(True, YES, ())
        self.check(True, YES, (), (1, 2))
        self.check(True, YES, (), store=())
        self.check(False, YES)
        self.check(False, YES, (1,))

    def test_no(self):
        self.check(True, NO)
        self.check(True, NO, (9,))
        self.check(True, NO, (1,), (2, 3), store=())
        self.check(False, NO, ())
        self.check(False, NO, (1,))

    def test_fact(self):
        self.check(True, A, (1,))
        self.check(True, A, (1,), (1, 2))
        self.check(False, A)
        self.check(False, A, ())
        self.check(False, A, (2,))
        self.check(False, A, (1, 2))
        self.check(False, A, (1,), (2,))
        self.check(False, ("fact", "f", (9,)), (9,))
        self.check(False, ("fact", "g", (1,)), (1,))
        self.check(False, ("fact", "f", (1, 1)), (1,))
        self.check(False, ("fact", "f", ("a",)), (1,))

    def test_any(self):
        self.check(True, either(A, B), (1,), (2,))
        self.check(True, either(B, A), (1,), (2,))
        self.check(True, either(A, B, C, D), (1,), (2,), (3,), (4,))
        self.check(True, either(both(A, B), C), (1, 2), (3,))
        self.check(True, either(either(A, B), C), (1,), (2,), (3,))
        self.check(True, either(case(1, either(B, C), NO), D), (1, 2), (1, 3), (4,))

    def test_any_with_a_common_place(self):
        self.check(False, either(A, A), (1,))
        self.check(False, either(both(A, B), both(A, C)), (1, 2), (1, 3))
        self.check(False, either(A, B, either(C, A)), (1,), (2,), (3,))
        self.check(False, either(case(1, B, NO), both(C, A)), (1, 2), (1, 3))

    def test_any_with_a_lot_that_is_in_none_of_the_circuits(self):
        self.check(False, either(A, B), (1,), (2,), (3,))
        self.check(False, either(A, B), (1,), (2,), (3, 4))
        self.check(False, either(A, B), (1, 2))
        self.check(False, either(both(A, B), both(C, D)), (1, 2), (3, 4), (2, 3))

    def test_any_with_a_circuit_that_has_no_lot(self):
        self.check(False, either(A, NO), (1,))
        self.check(False, either(A, B, NO), (1,), (2,))
        self.check(False, either(A, B), (1,))
        self.check(False, either(A, B))
        self.check(False, either(NO, NO))

    def test_any_with_the_empty_lot(self):
        self.check(False, either(YES, YES), ())
        self.check(False, either(YES, NO), ())
        self.check(False, either(YES, A), ())
        self.check(False, either(A, B), ())

    def test_any_with_a_circuit_that_is_not_right_for_its_lots(self):
        self.check(False, either(either(A, B), C), (1, 2), (3,))
        self.check(False, either(C, both(A, B)), (1,), (2,), (3,))
        self.check(False, either(A, case(2, YES, C)), (1,), (2, 3))

    def test_both(self):
        self.check(True, both(A, B), (1, 2))
        self.check(True, both(C, A, B), (1, 2, 3))
        self.check(True, both(A, either(B, C)), (1, 2), (1, 3))
        self.check(True, both(either(A, B), either(C, D)), (1, 3), (1, 4), (2, 3), (2, 4))
        self.check(True, both(A, both(B, C)), (1, 2, 3))
        self.check(True, both(E, case(1, either(B, C), NO)), (1, 2, 5), (1, 3, 5))

    def test_both_with_a_common_place(self):
        self.check(False, both(A, A), (1,))
        self.check(False, both(both(A, B), A), (1, 2))
        self.check(False, both(either(A, B), either(A, C)), (1,), (2, 3))

    def test_both_with_no_lot(self):
        self.check(False, both(A, B))
        self.check(False, both(NO, NO))
        self.check(False, both(A, NO))

    def test_both_with_an_empty_part(self):
        self.check(False, both(A, YES), (1,))
        self.check(False, both(YES, YES), ())
        self.check(False, both(A, B), (1,))
        self.check(False, both(A, B), (1,), (2,))
        self.check(False, both(either(A, C), B), (1, 2), (3,))
        self.check(False, both(A, B), ())

    def test_both_with_parts_that_have_all_places_of_others(self):
        self.check(False, both(either(A, B), either(C, D)), (1, 3), (1, 2, 4))
        self.check(False, both(both(A, B), either(C, D)), (1, 2, 3), (1, 4))
        self.check(False, both(case(1, YES, B), either(C, D)), (1, 3), (1, 2, 4), (2, 3))

    def test_both_with_lots_that_are_not_put_together(self):
        self.check(False, both(either(A, B), either(C, D)), (1, 3), (2, 4))
        self.check(False, both(either(A, B), either(C, D)), (1, 3), (1, 4), (2, 3))
        self.check(False, both(A, B), (1, 2, 3))
        self.check(False, both(A, either(B, C)), (1, 2), (1, 3, 4))
        self.check(False, both(either(A, B), either(C, D)), (1, 3), (1, 4), (2, 3), (2, 4, 5))

    def test_both_with_a_circuit_that_is_not_right_for_its_parts(self):
        self.check(False, both(A, both(B, C)), (1, 2), (1, 3))
        self.check(False, both(A, either(B, C)), (1, 2, 3))
        self.check(False, both(A, case(2, YES, C)), (1, 2, 3))

    def test_case(self):
        self.check(True, case(1, YES, NO), (1,))
        self.check(True, case(1, B, NO), (1, 2))
        self.check(True, case(2, A, NO), (1, 2))
        self.check(True, case(1, YES, B), (1,), (2,))
        self.check(True, case(1, either(B, C), both(B, C)), (1, 2), (1, 3), (2, 3))
        self.check(True, case(1, either(B, C), C), (1, 2), (3,))

    def test_case_takes_the_smallest_ones_of_the_lots_without_the_place(self):
        self.check(True, case(1, B, both(B, C)), (1, 2), (2, 3))
        self.check(False, case(1, either(B, both(B, C)), both(B, C)), (1, 2), (2, 3))
        self.check(True, case(1, YES, both(B, C)), (1,), (2, 3))
        self.check(False, case(1, both(B, C), both(B, C)), (1,), (2, 3))

    def test_case_with_a_place_in_no_lot(self):
        self.check(False, case(3, either(A, B), either(A, B)), (1,), (2,))
        self.check(False, case(1, NO, NO))
        self.check(False, case(1, YES, YES), ())
        self.check(False, case(9, A, A), (1,))
        self.check(False, case(2, A, A), (1,), (1, 2))

    def test_places_without_a_fact(self):
        self.check(False, fact(9), ())
        self.check(False, case(1, fact(9), NO), (1,))
        self.check(False, case(1, YES, fact(9)), (1,))
        self.check(False, either(A, fact(9)), (1,))
        self.check(False, both(A, fact(9)), (1,))
        self.check(False, case(9, YES, A), (1,))

    def test_case_with_a_circuit_that_is_not_right(self):
        self.check(False, case(1, C, both(B, C)), (1, 2), (1, 3), (2, 3))
        self.check(False, case(1, either(B, C), NO), (1, 2), (1, 3), (2, 3))
        self.check(False, case(1, either(B, C), B), (1, 2), (1, 3), (2, 3))
        self.check(False, case(1, either(A, B), NO), (1, 2))
        self.check(False, case(1, YES, A), (1,), (2,))

    def test_case_with_its_circuits_exchanged(self):
        self.check(False, case(1, NO, YES), (1,))
        self.check(False, case(1, NO, B), (1, 2))
        self.check(False, case(1, both(B, C), either(B, C)), (1, 2), (1, 3), (2, 3))

    def test_different_circuits_for_one_question(self):
        lots = ((1, 2), (1, 3))
        for circuit in (
            both(A, either(B, C)),
            case(1, either(B, C), NO),
            case(2, A, both(A, C)),
            case(3, case(1, YES, NO), case(2, A, NO)),
            both(case(1, YES, NO), case(2, YES, C)),
        ):
            self.check(True, circuit, *lots)
            self.check(False, circuit, *lots, (1, 4))
            self.check(False, circuit, lots[0])

    def test_questions_with_variables(self):
        store = (("r", (1,), HALF), ("r", (2,), HALF), ("s", (1, 5), HALF), ("s", (1, 6), HALF))
        question = (0, (closed(atom("r", "x"), atom("s", "x", "y")),))
        circuit = both(("fact", "r", (1,)), either(("fact", "s", (1, 5)), ("fact", "s", (1, 6))))
        self.assertIs(judge_circuit(store, question, circuit), True)
        self.assertIs(judge_circuit(store[1:], question, circuit), False)
        self.assertIs(judge_circuit(store, question, either(*[("fact",) + place[:2] for place in store])), False)

    def test_the_example_of_the_document(self):
        store = (("r", (1,), (1, 2)), ("r", (2,), (1, 3)))
        circuit = either(("fact", "r", (1,)), ("fact", "r", (2,)))
        self.assertIs(judge_circuit(store, (0, (closed(atom("r", "x")),)), circuit), True)
        self.assertEqual(number_of_circuit(store, circuit), (2, 3))


class TestFormsOfCircuits(unittest.TestCase):
    """Tuples that have not the form of a circuit, for questions for which they come near to a right one."""

    def check(self, circuit, *lots):
        with self.subTest(circuit=circuit):
            self.assertIs(judge_circuit(STORE, question_of(*lots), circuit), False)

    def test_the_empty_tuple_and_other_first_items(self):
        for circuit in ((), (1,), ("",), ("Yes",), ("yes ",), ("maybe",), (("yes",),), ((),), ("not", A), ("f", (1,))):
            for lots in ((), ((),), ((1,),)):
                self.check(circuit, *lots)
        self.check(("scan", 0), (1,))
        self.check(("all", (A, B)), (1, 2))
        self.check((("any", "any"), (A, B)), (1,), (2,))

    def test_too_few_and_too_many_items(self):
        for extra in ((), 1, "yes", ("yes",)):
            self.check(YES + (extra,), ())
            self.check(NO + (extra,))
            self.check(A + (extra,), (1,))
            self.check(either(A, B) + (extra,), (1,), (2,))
            self.check(both(A, B) + (extra,), (1, 2))
            self.check(case(1, YES, NO) + (extra,), (1,))
        for circuit in (A, case(1, YES, NO)):
            for count in range(1, len(circuit)):
                self.check(circuit[:count], (1,))
        self.check(("any",), (1,), (2,))
        self.check(("any", A, B), (1,), (2,))
        self.check(("both",), (1, 2))
        self.check(("both", A, B), (1, 2))

    def test_integers_and_strings_in_the_place_of_circuits(self):
        for thing in (0, 1, 2, "", "yes", "no", "fact", "AB"):
            self.check(case(1, thing, NO), (1,))
            self.check(case(1, YES, thing), (1,))
            self.check(either(A, thing), (1,))
            self.check(both(thing, A), (1,))
            self.check(("any", thing), (1,), (2,))
            self.check(("both", thing), (1, 2))
        self.check(("any", "yes"), ())

    def test_too_few_circuits(self):
        for kind in ("any", "both"):
            self.check((kind, ()))
            self.check((kind, ()), ())
            self.check((kind, (A,)), (1,))
            self.check((kind, (YES,)), ())
            self.check((kind, (NO,)))

    def test_names_and_rows_that_are_none(self):
        for name in (0, 1, (), ("f",), "", "F", "f ", "f(1)"):
            self.check(("fact", name, (1,)), (1,))
            self.check(("case", name, (1,), YES, NO), (1,))
        for row in (1, 0, "1", "", (), ("1",), ("A",), ((1,),), (1, 1), (((), 1),), (("a", 1),)):
            self.check(("fact", "f", row), (1,))
            self.check(("case", "f", row, YES, NO), (1,))

    def test_forms_deep_inside(self):
        for wrong in ((), (1,), ("no", 1), ("any", (A,)), ("fact", "f", 1), ("fact", 1, (1,))):
            self.check(either(A, both(B, case(3, YES, wrong))), (1,), (2, 3))

    def test_many_tuples_inside_each_other(self):
        wrong, forms = (), YES
        for _ in range(248):
            wrong, forms = (wrong,), ("any", forms)
        self.check(wrong, ())
        self.check(forms, ())
        self.check(("fact", "f", wrong), (1,))
        self.check((wrong, "f", (1,)), (1,))
        circuit = A
        for _ in range(124):
            circuit = both(circuit, circuit[:1])
        self.check(circuit, (1,))
        circuit = fact(1)
        for k in range(2, 125):
            circuit = (either if k % 2 else both)(circuit, fact(k))
        store = tuple([("f", (k,), HALF) for k in range(1, 125)])
        chain = (0, tuple([closed(*[atom("f", k) for k in range(1, 125, 16)])]))
        self.assertIs(judge_circuit(store, chain, circuit), False)

    def test_a_right_circuit_with_many_cases_inside_each_other(self):
        circuit = NO
        store = tuple([("f", (k,), HALF) for k in range(200)])
        for k in range(200):
            circuit = ("case", "f", (k,), YES, circuit)
        question = (0, (closed(atom("f", "x")),))
        self.assertIs(judge_circuit(store, question, circuit), True)
        self.assertEqual(number_of_circuit(store, circuit), (2 ** 200 - 1, 2 ** 200))
        self.assertIs(judge_circuit(store, question, ("case", "f", (0,), YES, circuit)), False)
        self.assertIs(judge_circuit(store[1:], question, circuit), False)


def changed(source, circuit):
    """The circuit with a change somewhere in it."""
    inner = inner_circuits(circuit)
    if inner and source.random() < 0.6:
        k = source.randrange(len(inner))
        new = inner[:k] + (changed(source, inner[k]),) + inner[k + 1:]
        return circuit[:-2] + new if circuit[0] == "case" else (circuit[0], new)
    if circuit[0] == "case":
        return source.choice((circuit[:3] + circuit[:2:-1], circuit[3], circuit[4], circuit[:4] + (YES,)))
    if circuit[0] in ("any", "both"):
        shuffled = tuple(source.sample(inner, len(inner)))
        return source.choice((
            (circuit[0], shuffled), ({"any": "both", "both": "any"}[circuit[0]], inner),
            (circuit[0], inner + inner[:1]), (circuit[0], inner + (YES,)),
            inner[0] if len(inner) == 2 else (circuit[0], inner[1:]),
        ))
    return source.choice((YES, NO, ("fact", "s", (1,)), circuit))


class TestMakeCircuit(unittest.TestCase):
    def check(self, store, question):
        circuit = make_circuit(store, question)
        with self.subTest(store=store, question=question, circuit=circuit):
            self.assertIs(judge_circuit(store, question, circuit), True)
            self.assertTrue(plain_judgement(store, question, circuit))
        return circuit

    def test_each_form(self):
        for kind, lots in (
            ("yes", [()]),
            ("yes", [(), (1,)]),
            ("no", []),
            ("no", [(9,)]),
            ("fact", [(1,)]),
            ("fact", [(1, 2), (1,)]),
            ("any", [(1,), (2,)]),
            ("any", [(1, 2), (3,)]),
            ("both", [(1, 2)]),
            ("both", [(1, 2), (1, 3)]),
            ("both", [(1, 2, 3), (1, 2, 4), (5, 2, 3), (5, 2, 4)]),
            ("case", [(1, 2), (2, 3), (3, 4)]),
            ("case", [(1, 2), (2, 3), (3, 1)]),
        ):
            circuit = self.check(STORE, question_of(*lots))
            self.assertEqual(circuit[0], kind)
            self.assertIs(type(circuit), tuple)

    def test_plain_circuits(self):
        self.assertEqual(make_circuit((), (0, ())), NO)
        self.assertEqual(make_circuit((), question_of(())), YES)
        self.assertEqual(make_circuit(STORE, question_of((3,))), fact(3))
        self.assertEqual(sorted(make_circuit(STORE, question_of((1,), (2,)))[1]), [A, B])
        self.assertEqual(sorted(make_circuit(STORE, question_of((1, 2)))[1]), [A, B])

    def test_both_of_parts_that_fall_apart_no_further(self):
        lots = [first + second for first in ((1, 2), (2, 3), (3, 4)) for second in ((5,), (6,))]
        circuit = self.check(STORE, question_of(*lots))
        self.assertEqual(circuit[0], "both")
        self.assertEqual(sorted([inner[0] for inner in circuit[1]]), ["any", "case"])

    def test_random_questions(self):
        source = random.Random(63)
        kinds = {}
        for _ in range(500):
            store, question = random_case(source, 9)
            if source.random() < 0.3:
                question = (0, (closed(atom("s", "x"), atom("r", "x", "y"), atom("s", "y")),) + question[1][:1])
            circuit = self.check(store, question)
            kinds[circuit[0]] = kinds.get(circuit[0], 0) + 1
            number = number_of_circuit(store, circuit)
            self.assertEqual(number, plain_chance(store, question))
            other = tuple([fact[:2] + (source.choice(CHANCES),) for fact in store])
            self.assertIs(judge_circuit(other, question, circuit), True)
            self.assertEqual(number_of_circuit(other, circuit), plain_chance(other, question))
        self.assertEqual(len(kinds), 6)
        self.assertGreater(min(kinds.values()), 5)

    def test_lots_of_values(self):
        source = random.Random(64)
        for _ in range(300):
            lots = [tuple(source.sample(range(1, 8), source.randint(1, 4))) for _ in range(source.randint(2, 8))]
            question = question_of(*lots)
            circuit = self.check(STORE, question)
            self.assertEqual(number_of_circuit(STORE, circuit), plain_chance(STORE, question))

    def test_circuits_that_are_changed(self):
        source = random.Random(65)
        counts = {True: 0, False: 0}
        for _ in range(1500):
            lots = [tuple(source.sample(range(1, 6), source.randint(1, 3))) for _ in range(source.randint(1, 6))]
            question = question_of(*lots)
            circuit = changed(source, make_circuit(STORE, question))
            expected = plain_judgement(STORE, question, circuit)
            with self.subTest(lots=lots, circuit=circuit):
                self.assertIs(judge_circuit(STORE, question, circuit), expected)
            counts[expected] += 1
        self.assertGreater(min(counts.values()), 150)

    def test_circuits_for_other_questions(self):
        source = random.Random(66)
        for _ in range(300):
            store, question = random_case(source, 6)
            other = random_case(source, 6)[1]
            circuit = make_circuit(store, question)
            with self.subTest(store=store, question=question, other=other):
                self.assertIs(judge_circuit(store, other, circuit), plain_judgement(store, other, circuit))


class TestManyFacts(unittest.TestCase):
    """Stores with many facts whose lots fall apart in one way or another, in good time."""

    def check(self, store, *atoms):
        question = (0, (closed(*atoms),))
        circuit = make_circuit(store, question)
        self.assertIs(judge_circuit(store, question, circuit), True)
        return circuit

    def test_facts_on_their_own(self):
        store = tuple([("f", (k,), HALF) for k in range(200)])
        circuit = self.check(store, atom("f", "x"))
        self.assertEqual(number_of_circuit(store, circuit), (2 ** 200 - 1, 2 ** 200))
        self.assertEqual(len(places_in_circuit(circuit)), 200)

    def test_a_hierarchical_join(self):
        store = tuple([("r", (k,), HALF) for k in range(20)] + [("s", (k % 20, k), HALF) for k in range(180)])
        store = tuple(sorted(store))
        circuit = self.check(store, atom("r", "x"), atom("s", "x", "y"))
        self.assertEqual(number_of_circuit(store, circuit)[1], (2 ** 10) ** 20)

    def test_ways_along_a_line(self):
        store = tuple([("e", (k, k + 1), HALF) for k in range(200)])
        for count in (2, 3):
            names = "abcd"
            self.check(store, *[atom("e", names[k], names[k + 1]) for k in range(count)])

    def test_a_line_and_a_circle_of_nodes(self):
        nodes = [("n", (k,), HALF) for k in range(66)]
        for last in (65, 66):
            edges = sorted([("e", (k, (k + 1) % 66), HALF) for k in range(last)])
            self.check(tuple(edges + nodes), atom("n", "x"), atom("e", "x", "y"), atom("n", "y"))

    def test_a_join_without_a_right_plan(self):
        for count, other in ((6, 6), (3, 30), (30, 3)):
            r, t = [("r", (k,), HALF) for k in range(count)], [("t", (k,), HALF) for k in range(other)]
            s = [("s", (a, b), HALF) for a in range(count) for b in range(other)]
            self.check(tuple(r + s + t), atom("r", "x"), atom("s", "x", "y"), atom("t", "y"))


class TestNumberOfCircuit(unittest.TestCase):
    def check(self, number, circuit, store=STORE):
        with self.subTest(circuit=circuit):
            self.assertEqual(number_of_circuit(store, circuit), number)
            self.assertEqual(pair(plain_circuit_number(store, circuit)), number)

    def test_yes_and_no(self):
        for store in ((), STORE):
            self.check((1, 1), YES, store)
            self.check((0, 1), NO, store)

    def test_facts(self):
        self.check((1, 2), A)
        self.check((1, 6), E)
        self.check((2, 5), ("fact", "works", ("ann", 3)), (("works", ("ann", 3), (2, 5)),))

    def test_places_without_a_fact(self):
        self.check((0, 1), fact(9))
        self.check((0, 1), A, ())
        self.check((1, 2), either(A, fact(9)))
        self.check((0, 1), both(A, fact(9)))
        self.check((1, 3), case(9, A, B))

    def test_any(self):
        self.check((2, 3), either(A, B))
        self.check((3, 4), either(A, B, C))
        self.check((1, 1), either(A, YES))
        self.check((1, 2), either(A, NO))

    def test_both(self):
        self.check((1, 6), both(A, B))
        self.check((1, 24), both(A, B, C))
        self.check((1, 2), both(A, YES))
        self.check((0, 1), both(A, NO))

    def test_case(self):
        self.check((1, 2), case(1, YES, NO))
        self.check((1, 2), case(1, NO, YES))
        self.check((5, 12), case(2, C, A))
        self.check((7, 24), case(1, B, C))

    def test_circuits_that_are_right_for_no_question(self):
        self.check((3, 4), either(A, A))
        self.check((1, 4), both(A, A))
        self.check((1, 2), case(1, A, A))

    def test_the_chances_zero_and_one(self):
        store = (("f", (1,), (0, 1)), ("f", (2,), (1, 1)), ("f", (3,), (1, 3)))
        self.check((0, 1), A, store)
        self.check((1, 1), B, store)
        self.check((1, 3), case(1, B, C), store)
        self.check((1, 1), case(2, B, C), store)
        self.check((1, 3), either(A, C), store)
        self.check((1, 1), either(A, B, C), store)
        self.check((1, 3), both(B, C), store)
        self.check((0, 1), both(A, C), store)

    def test_random_circuits(self):
        source = random.Random(67)

        def grown(depth):
            kind = source.choice(("yes", "no", "fact", "any", "both", "case", "any", "both", "case"))
            if kind in ("yes", "no"):
                return (kind,)
            if depth == 0 or kind == "fact":
                return fact(source.randint(0, 8))
            if kind == "case":
                return case(source.randint(0, 8), grown(depth - 1), grown(depth - 1))
            return (kind, tuple([grown(depth - 1) for _ in range(source.randint(2, 3))]))

        for _ in range(300):
            circuit = grown(4)
            store = tuple([("f", (k,), source.choice(CHANCES)) for k in range(9)])
            self.check(pair(plain_circuit_number(store, circuit)), circuit, store)


if __name__ == "__main__":
    unittest.main()
