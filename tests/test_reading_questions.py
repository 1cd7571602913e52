"""Reading questions: what is accepted, and the faults with their places ([17] to [19])."""

import unittest

from rightchance.errors import BadText, NoQuestion
from rightchance.reading import read_question
from rightchance.writing import write_question

LONG = 10 ** 999 + 7
SCHEMA = (("none", 1), ("open", 1), ("rain", 0), ("table", 0), ("wide", 8), ("works", 2))


def var(x):
    return ("var", x)


def value(v):
    return ("value", v)


OPEN = ("open", (var("x"),))
WORKS = ("works", (var("x"), var("y")))


class Reading(unittest.TestCase):
    def check(self, text, question, schema=SCHEMA):
        with self.subTest(text=text):
            self.assertEqual(read_question(schema, text), question)

    def check_bad(self, text, at, schema=SCHEMA):
        with self.subTest(text=text):
            with self.assertRaises(BadText) as caught:
                read_question(schema, text)
            self.assertEqual((caught.exception.line, caught.exception.at), (0, at))

    def check_invalid(self, text, join, schema=SCHEMA):
        with self.subTest(text=text):
            with self.assertRaises(NoQuestion) as caught:
                read_question(schema, text)
            self.assertEqual(caught.exception.join, join)


class TestGoodQuestions(Reading):
    def test_the_examples_of_the_document(self):
        self.check("[x, \"a\"] works(x, y), open(y)", (2, (((var("x"), value("a")), (WORKS, ("open", (var("y"),)))),)))
        self.check("[]", (0, (((), ()),)))

    def test_what_is_written_can_be_read(self):
        wide = ("wide", (var("x"), value("x"), value(-1), value(LONG), var("table"), value(0), var("x"), value("none")))
        for question in (
            (0, ()),
            (8, ()),
            (0, (((), ()),)),
            (0, (((), ()), ((), (wide,)), ((), (("rain", ()), ("table", ()), ("none", (var("none"),)))))),
            (2, (((var("y"), var("x")), (WORKS,)), ((value(1), value("a")), ()), ((value(1), var("x")), (OPEN, OPEN)))),
            (0, (((), (OPEN,) * 8),) * 8),
            (8, (((var("x"),) * 8, (WORKS, wide)),)),
        ):
            self.check(write_question(question), question)

    def test_questions_without_joins(self):
        for width in range(9):
            self.check(f"none {width}", (width, ()))
            self.check(f"none{width}", (width, ()), ())

    def test_spaces_between_all_tokens(self):
        first = ((var("x"), value("a")), (WORKS, ("rain", ())))
        question = (2, (first, ((value(-1), value(0)), ())))
        for gap in (" ", "   ", " " * 40):
            text = "|[|x|,|\"a\"|]|works|(|x|,|y|)|,|rain|(|)|;|[|-1|,|0|]|"
            self.check(text.replace("|", gap), question)
            self.check(gap + "none" + gap + "3" + gap, (3, ()))
        self.check("[x,\"a\"]works(x,y),rain();[-1,0]", question)

    def test_terms_beside_each_other_in_several_kinds(self):
        self.check("[] works(x, \"x\"), works(7, table)", (0, (
            ((), (("works", (var("x"), value("x"))), ("works", (value(7), var("table"))))),)))

    def test_results_are_tuples(self):
        question = read_question(SCHEMA, "[x] works(x, 1)")
        self.assertEqual(repr(question), repr((1, (((var("x"),), (("works", (var("x"), value(1))),)),))))


class TestNone(Reading):
    def test_the_number(self):
        self.check_bad("none", 4)
        self.check_bad("none  ", 6)
        for text in ("-1", "x", "\"a\"", "(", "[", ";", "01", "-0", "-", str(-LONG)):
            self.check_bad(f"none {text}", 5)

    def test_tokens_behind_the_number(self):
        for text in ("1", ";", "[]", ",", "none", "none 1", "\"a\"", "#"):
            self.check_bad(f"none 1 {text}", 7)

    def test_widths_that_are_too_great(self):
        self.check("none 8", (8, ()))
        self.check_invalid("none 9", None)
        self.check_invalid(f"none {LONG}", None)
        self.check_bad("none 9 x", 7)

    def test_none_elsewhere(self):
        self.check_bad("[]; none 0", 4)
        self.check_bad("[] none 0", 8)
        self.check("[none] none(none)", (1, (((var("none"),), (("none", (var("none"),)),)),)))
        self.check_bad("none(x)", 4)
        self.check_bad("[] none(x)", 3, (("open", 1),))


class TestHeads(Reading):
    def test_the_beginning(self):
        self.check_bad("", 0)
        self.check_bad("    ", 4)
        for text in ("x", "open(x)", "1", "\"a\"", "\"none\" 1", "(", "]", ";", ",", "!", "*", "/", "nones", "table"):
            self.check_bad(text, 0)
            self.check_bad("  " + text, 2)

    def test_the_first_head(self):
        self.check_bad("[", 1)
        self.check_bad("[ ", 2)
        self.check_bad("[x", 2)
        self.check_bad("[x,", 3)
        self.check_bad("[,", 1)
        self.check_bad("[x,]", 3)
        self.check_bad("[x,,y]", 3)
        self.check_bad("[x y]", 3)
        self.check_bad("[x\"a\"]", 2)
        self.check_bad("[1-1]", 2)
        self.check_bad("[x;", 2)
        self.check_bad("[(", 1)
        self.check_bad("[[", 1)
        self.check_bad("[x)", 2)

    def test_later_heads_have_as_many_terms_as_the_first_one(self):
        for count in range(5):
            terms = ["1", "x", "\"a\"", "-5", "0"]
            first = "[" + ", ".join(terms[:count]) + "] works(x, x); "
            for other in range(5):
                # Without gaps, so that the first token that does not fit is easy to find.
                head = "[" + ",".join(terms[:other]) + "]"
                text = first + head + " works(x, x)"
                if other == count:
                    width, joins = read_question(SCHEMA, text)
                    self.assertEqual((width, len(joins)), (count, 2))
                elif other < count:
                    self.check_bad(text, len(first) + len(head) - 1)
                elif count == 0:
                    self.check_bad(text, len(first) + 1)
                else:
                    self.check_bad(text, len(first) + 1 + len(",".join(terms[:count])))

    def test_faults_in_later_heads(self):
        self.check_bad("[1]; ", 5)
        self.check_bad("[1]; [", 6)
        self.check_bad("[1]; []", 6)
        self.check_bad("[1]; [1", 7)
        self.check_bad("[1]; [1,", 7)
        self.check_bad("[1]; [1 2]", 8)
        self.check_bad("[]; [ 1]", 6)
        self.check_bad("[]; [ ,]", 6)
        self.check_bad("[]; [", 5)
        self.check_bad("[1, 2]; [1 2]", 11)
        self.check_bad("[1, 2]; [1,]", 11)
        self.check_bad("[1]; x", 5)
        self.check_bad("[1];;", 4)
        # The width is that of the first head, not of the one before.
        self.check("[1]; [2]; [3]", (1, (((value(1),), ()), ((value(2),), ()), ((value(3),), ()))))
        self.check_bad("[1]; [2]; [3, 4]", 12)

    def test_what_may_stand_behind_a_head(self):
        for text in ("]", "[", ",", "(", "1", "\"a\"", "/", "*", "!"):
            self.check_bad(f"[] {text}", 3)
            self.check_bad(f"[]{text}", 2)
            self.check_bad(f"[]; []{text}", 6)


class TestAtoms(Reading):
    def test_names(self):
        for name in ("r", "ope", "openn", "closed", "\"open\""):
            self.check_bad(f"[] {name}(x)", 3)
            self.check_bad(f"[] open(x), {name}(x)", 12)
            self.check_bad(f"[]; [] rain(); [] {name}(x)", 18)
            self.check_bad(f"[]{name}(x)", 2)
        self.check_bad("[] open(x)", 3, (("rain", 0),))
        self.check_bad("[] open(x)", 3, ())
        self.check_bad("[] Open(x)", 3)

    def test_the_opening_bracket(self):
        self.check_bad("[] open", 7)
        self.check_bad("[] open  ", 9)
        for text in (")", "[", "x", "1", "\"a\"", ",", ";"):
            self.check_bad(f"[] open {text}", 8)

    def test_terms(self):
        for text in (")", "(", "[", ",", ";", "/", "01", "-", "\"", "\"\"", "\"a1\"", "-0", "A", "!"):
            self.check_bad(f"[] open({text}", 8)
            self.check_bad(f"[] works(x, {text}", 12)
        self.check_bad("[] open(", 8)
        self.check_bad("[] open(x", 9)

    def test_too_few_and_too_many_terms(self):
        self.check_bad("[] rain(x)", 8)
        self.check_bad("[] open()", 8)
        self.check_bad("[] open(x, y)", 9)
        self.check_bad("[] open(x,)", 9)
        self.check_bad("[] open(x y)", 10)
        self.check_bad("[] works(x)", 10)
        self.check_bad("[] works(x, y, z)", 13)
        self.check_bad("[] works(,x)", 9)
        self.check("[] open(x, y)", (0, (((), (("open", (var("x"), var("y"))),)),)), (("open", 2),))

    def test_what_may_stand_behind_an_atom(self):
        for text in ("open(x)", "1", "\"a\"", "(", ")", "[", "]", "*", "/", "#"):
            self.check_bad(f"[] open(x) {text}", 11)
        self.check_bad("[] open(x),", 11)
        self.check_bad("[] open(x), ", 12)
        self.check_bad("[] open(x), ;", 12)
        self.check_bad("[] open(x), []", 12)
        self.check_bad("[] open(x);", 11)
        self.check_bad("[] open(x); open(x)", 12)
        self.check_bad("[], open(x)", 2)


class TestCharactersThatBeginNoToken(Reading):
    def test_everywhere(self):
        for sign in "#$%&'+.:<=>?@ABZ\\^_`{|}~\t\n-":
            self.check_bad(sign, 0)
            self.check_bad(" " + sign, 1)
            self.check_bad(f"[{sign}]", 1)
            self.check_bad(f"[x{sign}]", 2)
            self.check_bad(f"[]{sign}", 2)
            self.check_bad(f"[] open{sign}(x)", 7)
            self.check_bad(f"[] open(x{sign})", 9)
            self.check_bad(f"[] open(x){sign}", 10)

    def test_newlines(self):
        self.check_bad("[]\n", 2)
        self.check_bad("\n[]", 0)
        self.check_bad("[]\n[]", 2)
        self.check_bad("none\n1", 4)
        self.check_bad("[] rain();\n[] rain()", 10)
        self.check_bad("[x\n", 2)

    def test_what_comes_first_is_told(self):
        self.check_bad("[] opn(#)", 3)
        self.check_bad("[] open(#, opn(", 8)
        self.check_bad("[x #] y", 3)
        self.check_bad("# [", 0)

    def test_integers(self):
        for text in ("00", "07", "-0", "-07", "-00", "0" * 500, "-", "--7"):
            self.check_bad(f"[{text}]", 1)
        self.check_bad("[1-07]", 2)
        self.check_bad("[1 -07]", 3)
        self.check("[-7]", (1, (((value(-7),), ()),)))
        self.check("[0]", (1, (((value(0),), ()),)))
        self.check(f"[{LONG}]", (1, (((value(LONG),), ()),)))

    def test_quotes(self):
        for text in ("\"", "\"\"", "\"a", "\"a ", "\" a\"", "\"A\"", "\"a1\"", "\"aB\"", "\"a\n\"", "\"-1\""):
            self.check_bad(f"[{text}]", 1)
        self.check_bad("[\"a\"\"", 4)
        self.check_bad("[\"a\" \"b\"]", 5)


class TestNoQuestion(Reading):
    def test_widths(self):
        self.check("[1,2,3,4,5,6,7,8]", (8, ((tuple([value(k) for k in range(1, 9)]), ()),)))
        self.check_invalid("[1,2,3,4,5,6,7,8,9]", None)
        self.check_invalid("[1,2,3,4,5,6,7,8,9]; [1,2,3,4,5,6,7,8,x]", None)
        self.check_bad("[1,2,3,4,5,6,7,8,9]; [1]", 23)

    def test_joins(self):
        self.check("; ".join(["[]"] * 8), (0, (((), ()),) * 8))
        self.check_invalid("; ".join(["[]"] * 9), None)
        self.check_invalid("; ".join(["[x]"] * 9), None)
        self.check_bad("; ".join(["[]"] * 9) + ";", 35)

    def test_atoms(self):
        self.check("[] " + ", ".join(["rain()"] * 8), (0, (((), (("rain", ()),) * 8),)))
        self.check_invalid("[] " + ", ".join(["rain()"] * 9), 0)
        self.check_invalid("[]; [] " + ", ".join(["rain()"] * 9), 1)

    def test_variables_of_heads(self):
        self.check_invalid("[x]", 0)
        self.check_invalid("[y] open(x)", 0)
        self.check_invalid("[x] open(\"x\")", 0)
        self.check_invalid("[x] open(x); [x] rain()", 1)
        self.check_invalid("[x] open(x); [x] open(y); [x]", 1)

    def test_bad_text_comes_first(self):
        self.check_bad("[x] open(y)]", 11)
        self.check_bad("[x]; [x, y]", 7)
        self.check_bad("[x]; []", 6)
        self.check_bad("[x]; [1] snow()", 9)
        self.check_bad("[] " + ", ".join(["rain()"] * 9) + ", snow()", 75)


if __name__ == "__main__":
    unittest.main()
