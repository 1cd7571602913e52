"""The written forms of values, books, questions, plans and circuits ([15] to [17], [24], [41])."""

import unittest

from rightchance.tables import make_store
from rightchance.writing import write_book, write_circuit, write_plan, write_question

LONG = 10 ** 999 + 7


def var(x):
    return ("var", x)


def value(v):
    return ("value", v)


class TestWriteBook(unittest.TestCase):
    def check(self, schema, facts, text):
        self.assertEqual(write_book(schema, make_store(schema, facts)), text)

    def test_no_tables(self):
        self.assertEqual(write_book((), ()), "")

    def test_no_facts(self):
        self.check((("works", 2),), [], "table works 2")
        self.check((("a", 0), ("b", 8)), [], "table a 0\ntable b 8")

    def test_tables_and_facts(self):
        schema = (("open", 1), ("rain", 0), ("works", 2))
        facts = [("works", ("ann", 3), (1, 2)), ("rain", (), (2, 3)), ("open", (1,), (0, 1)), ("open", ("b",), (1, 1))]
        lines = ["table open 1", "table rain 0", "table works 2"]
        lines.extend(["open(1) 0/1", "open(\"b\") 1/1", "rain() 2/3", "works(\"ann\", 3) 1/2"])
        self.check(schema, facts, "\n".join(lines))

    def test_the_order_of_the_facts(self):
        facts = [("r", (k,), (1, 2)) for k in ("b", 10, "ab", 9, -10, "a", -9, 0)]
        rows = ["-10", "-9", "0", "9", "10", "\"a\"", "\"ab\"", "\"b\""]
        self.check((("r", 1),), facts, "\n".join(["table r 1"] + [f"r({row}) 1/2" for row in rows]))

    def test_integers(self):
        for number, text in ((0, "0"), (-1, "-1"), (10, "10"), (-200, "-200"), (LONG, str(LONG)), (-LONG, f"-{LONG}")):
            self.check((("r", 1),), [("r", (number,), (1, 2))], f"table r 1\nr({text}) 1/2")

    def test_long_chances(self):
        n, d = 10 ** 60 - 2, 10 ** 60 - 1
        self.check((("r", 0),), [("r", (), (n, d))], f"table r 0\nr() {n}/{d}")

    def test_many_columns(self):
        row = (1, "a", -2, "bc", 0, "d", 7, "zz")
        self.check((("r", 8),), [("r", row, (1, 2))], "table r 8\nr(1, \"a\", -2, \"bc\", 0, \"d\", 7, \"zz\") 1/2")

    def test_names_that_texts_begin_with(self):
        facts = [("table", (1,), (1, 2)), ("none", (), (1, 2))]
        self.check((("none", 0), ("table", 1)), facts, "table none 0\ntable table 1\nnone() 1/2\ntable(1) 1/2")


class TestWriteQuestion(unittest.TestCase):
    def check(self, question, text):
        self.assertEqual(write_question(question), text)

    def test_the_examples_of_the_document(self):
        body = (("works", (var("x"), var("y"))), ("open", (var("y"),)))
        self.check((2, (((var("x"), value("a")), body),)), "[x, \"a\"] works(x, y), open(y)")
        self.check((0, (((), ()),)), "[]")

    def test_no_joins(self):
        for width in range(9):
            self.check((width, ()), f"none {width}")

    def test_joins_without_atoms(self):
        self.check((1, (((value(-5),), ()),)), "[-5]")
        self.check((2, (((value("a"), value(0)), ()),)), "[\"a\", 0]")
        self.check((0, (((), ()), ((), ()))), "[]; []")

    def test_several_joins(self):
        joins = (((), (("rain", ()),)), ((), ()), ((), (("open", (value(1),)), ("rain", ()))))
        self.check((0, joins), "[] rain(); []; [] open(1), rain()")
        joins = (((var("x"),), (("open", (var("x"),)),)), ((value(2),), ()))
        self.check((1, joins), "[x] open(x); [2]")

    def test_terms(self):
        body = (("r", (var("x"), value("x"), value(-1), value(LONG), var("table"))),)
        self.check((0, (((), body),)), f"[] r(x, \"x\", -1, {LONG}, table)")


JOIN = ((), (("r", (var("x"),)), ("s", (var("x"), value("a"))), ("rain", ()), ("t", (value(-3), var("y")))))


class TestWritePlan(unittest.TestCase):
    def check(self, plan, text, join=JOIN):
        self.assertEqual(write_plan(join, plan), text)

    def test_the_example_of_the_document(self):
        join = ((), (("r", (var("x"),)), ("s", (var("x"), var("y")))))
        plan = ("project", "x", ("join", (("scan", 0), ("project", "y", ("scan", 1)))))
        self.check(plan, "!x [r(x) * !y s(x, y)]", join)

    def test_scans(self):
        for index, text in enumerate(["r(x)", "s(x, \"a\")", "rain()", "t(-3, y)"]):
            self.check(("scan", index), text)

    def test_joins(self):
        self.check(("join", (("scan", 0), ("scan", 1))), "[r(x) * s(x, \"a\")]")
        plan = ("join", (("scan", 2), ("scan", 1), ("scan", 0), ("scan", 3)))
        self.check(plan, "[rain() * s(x, \"a\") * r(x) * t(-3, y)]")

    def test_joins_inside_each_other(self):
        inner = ("join", (("scan", 0), ("scan", 2)))
        self.check(("join", (inner, ("scan", 1))), "[[r(x) * rain()] * s(x, \"a\")]")
        self.check(("join", (("scan", 1), inner)), "[s(x, \"a\") * [r(x) * rain()]]")
        self.check(("join", (inner, inner)), "[[r(x) * rain()] * [r(x) * rain()]]")

    def test_projections(self):
        self.check(("project", "x", ("scan", 0)), "!x r(x)")
        self.check(("project", "y", ("project", "x", ("scan", 0))), "!y !x r(x)")
        self.check(("join", (("project", "x", ("scan", 0)), ("project", "q", ("scan", 2)))), "[!x r(x) * !q rain()]")

    def test_projections_and_joins_one_in_another_many_times(self):
        plan, text = ("scan", 0), "r(x)"
        for k in range(20):
            plan, text = ("project", "ab", ("join", (plan, ("scan", 2)))), f"!ab [{text} * rain()]"
        self.check(plan, text)
        plan = ("scan", 0)
        for k in range(40):
            plan = ("project", "x", plan)
        self.check(plan, "!x " * 40 + "r(x)")


R = ("fact", "r", (1,))
S = ("fact", "s", (2, "a"))
CASE = ("case", "s", (2,), ("yes",), ("no",))


class TestWriteCircuit(unittest.TestCase):
    def check(self, circuit, text):
        self.assertEqual(write_circuit(circuit), text)

    def test_the_example_of_the_document(self):
        self.check(("both", (R, CASE)), "[r(1) * (s(2) ? yes : no)]")

    def test_yes_and_no(self):
        self.check(("yes",), "yes")
        self.check(("no",), "no")

    def test_facts(self):
        self.check(R, "r(1)")
        self.check(S, "s(2, \"a\")")
        self.check(("fact", "rain", ()), "rain()")
        self.check(("fact", "yes", (-LONG,)), f"yes(-{LONG})")

    def test_any(self):
        self.check(("any", (R, S)), "[r(1) / s(2, \"a\")]")
        self.check(("any", (R, S, R)), "[r(1) / s(2, \"a\") / r(1)]")
        self.check(("any", (R,)), "[r(1)]")
        self.check(("any", ()), "[]")

    def test_both(self):
        self.check(("both", (R, S)), "[r(1) * s(2, \"a\")]")
        self.check(("both", (S, R, ("yes",))), "[s(2, \"a\") * r(1) * yes]")
        self.check(("both", (S,)), "[s(2, \"a\")]")
        self.check(("both", ()), "[]")

    def test_case(self):
        self.check(CASE, "s(2) ? yes : no")
        self.check(("case", "rain", (), R, S), "rain() ? r(1) : s(2, \"a\")")

    def test_a_case_inside_another_circuit(self):
        self.check(("any", (CASE, R)), "[(s(2) ? yes : no) / r(1)]")
        self.check(("any", (CASE,)), "[(s(2) ? yes : no)]")
        self.check(("both", (R, CASE)), "[r(1) * (s(2) ? yes : no)]")
        self.check(("case", "r", (1,), CASE, R), "r(1) ? (s(2) ? yes : no) : r(1)")
        self.check(("case", "r", (1,), R, CASE), "r(1) ? r(1) : (s(2) ? yes : no)")
        deep = ("case", "t", (), ("case", "r", (1,), CASE, CASE), ("no",))
        self.check(deep, "t() ? (r(1) ? (s(2) ? yes : no) : (s(2) ? yes : no)) : no")

    def test_other_circuits_inside_a_case_and_each_other(self):
        circuit = ("case", "t", (), ("any", (R, S)), ("both", (S, R)))
        self.check(circuit, "t() ? [r(1) / s(2, \"a\")] : [s(2, \"a\") * r(1)]")
        self.check(("any", (("both", (R, S)), ("any", (R, R)))), "[[r(1) * s(2, \"a\")] / [r(1) / r(1)]]")
        self.check(("both", (("any", ()), ("both", (R,)))), "[[] * [r(1)]]")

    def test_deep_circuits(self):
        circuit, text = ("yes",), "yes"
        for k in range(1200):
            circuit = ("case", "r", (k,), circuit, ("no",))
            text = f"r({k}) ? {text} : no" if k == 0 else f"r({k}) ? ({text}) : no"
        self.check(circuit, text)
        circuit, text = R, "r(1)"
        for k in range(120):
            circuit, text = ("both", (S, ("any", (circuit, R)))), f"[s(2, \"a\") * [{text} / r(1)]]"
        self.check(circuit, text)


if __name__ == "__main__":
    unittest.main()
