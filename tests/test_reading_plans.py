"""Reading plans: what is accepted, and the faults with their places ([18], [19], [24])."""

import unittest

from rightchance.errors import BadText
from rightchance.reading import read_plan
from rightchance.writing import write_plan

LONG = 10 ** 999 + 7


def var(x):
    return ("var", x)


def value(v):
    return ("value", v)


# r(x), s(x, "a", -3), rain(), t(1)
BODY = (("r", (var("x"),)), ("s", (var("x"), value("a"), value(-3))), ("rain", ()), ("t", (value(1),)))
JOIN = ((), BODY)
R, S, RAIN, T = [("scan", k) for k in range(4)]


class Reading(unittest.TestCase):
    def check(self, text, plan, join=JOIN):
        with self.subTest(text=text):
            self.assertEqual(read_plan(join, text), plan)

    def check_bad(self, text, at, join=JOIN):
        with self.subTest(text=text):
            with self.assertRaises(BadText) as caught:
                read_plan(join, text)
            self.assertEqual((caught.exception.line, caught.exception.at), (0, at))


class TestGoodPlans(Reading):
    def test_scans(self):
        self.check("r(x)", R)
        self.check("s(x, \"a\", -3)", S)
        self.check("rain()", RAIN)
        self.check("t(1)", T)

    def test_joins_and_projections(self):
        self.check("!x r(x)", ("project", "x", R))
        self.check("[r(x) * rain()]", ("join", (R, RAIN)))
        self.check("[t(1) * r(x) * rain() * s(x, \"a\", -3)]", ("join", (T, R, RAIN, S)))
        self.check("!x [r(x) * !y rain()]", ("project", "x", ("join", (R, ("project", "y", RAIN)))))
        self.check("[[r(x) * t(1)] * rain()]", ("join", (("join", (R, T)), RAIN)))
        self.check("[r(x) * [t(1) * rain()]]", ("join", (R, ("join", (T, RAIN)))))

    def test_plans_that_are_not_valid(self):
        self.check("[r(x) * r(x)]", ("join", (R, R)))
        self.check("!q !q rain()", ("project", "q", ("project", "q", RAIN)))
        self.check("[!x r(x) * !x s(x, \"a\", -3)]", ("join", (("project", "x", R), ("project", "x", S))))

    def test_any_word_fits_behind_the_sign_of_a_projection(self):
        for word in ("x", "r", "rain", "none", "table", "abc" * 50):
            self.check(f"!{word} r(x)", ("project", word, R))
            self.check(f"!{word} !{word} r(x)", ("project", word, ("project", word, R)))

    def test_spaces_between_all_tokens(self):
        plan = ("project", "x", ("join", (R, ("project", "y", S), ("join", (RAIN, T)))))
        text = "|!|x|[|r|(|x|)|*|!|y |s|(|x|,|\"a\"|,|-3|)|*|[|rain|(|)|*|t|(|1|)|]|]|"
        for gap in ("", " ", "  ", " " * 60):
            self.check(text.replace("|", gap), plan)

    def test_what_is_written_can_be_read(self):
        plans = [R, S, ("join", (R, S)), ("project", "x", R)]
        for k in range(5):
            plans = plans + [("join", (plans[-1], plans[k], RAIN)), ("project", "y", plans[-1])]
        for plan in plans:
            self.check(write_plan(JOIN, plan), plan)

    def test_forty_signs_open_at_one_place(self):
        plan, text = R, "r(x)"
        for k in range(20):
            plan, text = ("join", (T, ("project", "x", plan))), f"[t(1) * !x {text}]"
        self.check(text, plan)
        self.assertEqual(write_plan(JOIN, plan), text)
        plan = R
        for k in range(40):
            plan = ("project", "x", plan)
        self.check("!x " * 40 + "r(x)", plan)

    def test_a_long_plan(self):
        plan = ("join", (("join", (R, T)),) * 900)
        text = write_plan(JOIN, plan)
        self.assertGreater(len(text), 14000)
        self.check(text, plan)
        self.check_bad(text + "]", len(text))

    def test_long_integers(self):
        join = ((), (("r", (value(LONG), value(-LONG))),))
        self.check(f"r({LONG}, -{LONG})", R, join)
        self.check_bad(f"r({LONG + 1}, -{LONG})", 2, join)


class TestBeginnings(Reading):
    def test_the_first_token(self):
        self.check_bad("", 0)
        self.check_bad("   ", 3)
        for text in ("x", "]", "*", "(", ")", ",", ";", "/", "1", "\"r\"", "q(x)", "rains()", "none", "ra"):
            self.check_bad(text, 0)
            self.check_bad(f"!x {text}", 3)
            self.check_bad(f"[{text}", 1)
            self.check_bad(f"[r(x) * {text}", 8)

    def test_tokens_behind_the_plan(self):
        for text in ("]", "*", "(", ")", ",", ";", "/", "1", "\"r\"", "r(x)", "!", "[", "x"):
            self.check_bad(f"r(x) {text}", 5)
            self.check_bad(f"!x r(x) {text}", 8)
            self.check_bad(f"[r(x) * t(1)] {text}", 14)


class TestAtoms(Reading):
    def test_names(self):
        self.check_bad("u(x)", 0)
        self.check_bad("[r(x) * u(x)]", 8)
        self.check_bad("r(x)", 0, ((), (("s", (var("x"),)),)))

    def test_tokens_that_make_another_atom(self):
        self.check_bad("r(y)", 2)
        self.check_bad("r(\"x\")", 2)
        self.check_bad("r(1)", 2)
        self.check_bad("r()", 2)
        self.check_bad("r(x, x)", 3)
        self.check_bad("rain(x)", 5)
        self.check_bad("t(-1)", 2)
        self.check_bad("t(x)", 2)
        self.check_bad("t(\"a\")", 2)
        self.check_bad("s(x, a, -3)", 5)
        self.check_bad("s(x, \"b\", -3)", 5)
        self.check_bad("s(x, \"a\", 3)", 10)
        self.check_bad("s(x, \"a\")", 8)
        self.check_bad("s(x, \"a\", -3, 1)", 12)
        self.check_bad("s(\"a\", x, -3)", 2)

    def test_an_atom_that_ends_too_early(self):
        self.check_bad("r", 1)
        self.check_bad("r ", 2)
        self.check_bad("r(", 2)
        self.check_bad("r(x", 3)
        self.check_bad("s(x,", 4)
        self.check_bad("s(x, \"a\",  ", 11)
        self.check_bad("rain(", 5)

    def test_other_signs(self):
        self.check_bad("r x)", 2)
        self.check_bad("r)", 1)
        self.check_bad("r(x]", 3)
        self.check_bad("s(x \"a\"", 4)
        self.check_bad("s(,", 2)


class TestBrackets(Reading):
    def test_behind_the_first_plan(self):
        for text in ("]", ",", "/", ")", "(", "r(x)", "!", "[", "1", "x", ";"):
            self.check_bad(f"[r(x) {text}", 6)
            self.check_bad(f"[!x r(x) {text}", 9)
            self.check_bad(f"[[r(x) * t(1)] {text}", 15)
        self.check_bad("[r(x)", 5)
        self.check_bad("[r(x)]", 5)
        self.check_bad("[[r(x)] * t(1)]", 6)

    def test_behind_later_plans(self):
        for text in (",", "/", ")", "(", "r(x)", "!", "[", "1", "x", ";"):
            self.check_bad(f"[r(x) * t(1) {text}", 13)
            self.check_bad(f"[r(x) * t(1) * rain() {text}", 22)
        self.check_bad("[r(x) * t(1)", 12)
        self.check_bad("[r(x) * t(1) ", 13)
        self.check_bad("[r(x) *]", 7)
        self.check_bad("[r(x) * * t(1)]", 8)
        self.check_bad("[r(x) * ", 8)
        self.check_bad("[* r(x)]", 1)
        self.check_bad("[]", 1)
        self.check_bad("[", 1)


class TestProjections(Reading):
    def test_the_variable(self):
        self.check_bad("!", 1)
        self.check_bad("! ", 2)
        for text in ("!", "[", "]", "(", "1", "\"x\"", "*", ","):
            self.check_bad(f"!{text}", 1)
            self.check_bad(f"! {text}", 2)

    def test_behind_the_variable(self):
        self.check_bad("!x", 2)
        self.check_bad("!x ", 3)
        self.check_bad("!x y", 3)
        self.check_bad("!r(x)", 2)
        self.check_bad("!x !y", 5)
        self.check_bad("!xr(x)", 3)
        self.check_bad("!x, r(x)", 2)


class TestCharactersThatBeginNoToken(Reading):
    def test_everywhere(self):
        for sign in "#$%&'+.:<=>?@ABZ\\^_`{|}~\t\n-\"":
            self.check_bad(sign, 0)
            self.check_bad(f"!{sign}", 1)
            self.check_bad(f"!x{sign}", 2)
            self.check_bad(f"[{sign}", 1)
            self.check_bad(f"r{sign}(x)", 1)
            self.check_bad(f"r(x){sign}", 4)
            self.check_bad(f"[r(x) * t(1){sign}]", 12)

    def test_newlines_and_integers(self):
        self.check_bad("r(x)\n", 4)
        self.check_bad("\nr(x)", 0)
        self.check_bad("!x\nr(x)", 2)
        self.check_bad("t(01)", 2)
        self.check_bad("s(x, \"a\", -03)", 10)

    def test_what_comes_first_is_told(self):
        self.check_bad("r(y) #", 2)
        self.check_bad("r(# y", 2)
        self.check_bad("[r(x)] #", 5)


if __name__ == "__main__":
    unittest.main()
