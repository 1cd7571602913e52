"""Reading books: what is accepted, and the faults with their lines and places ([16], [18], [19])."""

import unittest
from itertools import permutations

from rightchance.errors import BadText, DoubleFact
from rightchance.reading import read_book
from rightchance.writing import write_book

LONG = 10 ** 999 + 7
BOOK = "table open 1\ntable rain 0\ntable works 2\nopen(-7) 1/2\nrain() 0/1\nworks(\"ann\", 3) 1/1"
PARTS = (
    (("open", 1), ("rain", 0), ("works", 2)),
    (("open", (-7,), (1, 2)), ("rain", (), (0, 1)), ("works", ("ann", 3), (1, 1))),
)


class Reading(unittest.TestCase):
    def check(self, text, schema, *facts):
        with self.subTest(text=text):
            self.assertEqual(read_book(text), (tuple(schema), tuple(facts)))

    def check_bad(self, text, line, at):
        with self.subTest(text=text):
            with self.assertRaises(BadText) as caught:
                read_book(text)
            self.assertEqual((caught.exception.line, caught.exception.at), (line, at))
            self.assertIs(type(caught.exception), BadText)

    def check_bad_line(self, before, line, at):
        """The last line of the text is the one that does not fit."""
        self.check_bad(before + "\n" + line, before.count("\n") + 1, at)

    def check_double(self, text):
        with self.subTest(text=text), self.assertRaises(DoubleFact) as caught:
            read_book(text)
        self.assertIs(type(caught.exception), DoubleFact)


class TestGoodBooks(Reading):
    def test_the_book_without_tables(self):
        self.check("", ())
        for text in (" ", "\n", "   \n\n  ", "\n" * 100):
            self.check(text, ())

    def test_what_is_written_can_be_read(self):
        self.assertEqual(read_book(BOOK), PARTS)
        self.assertEqual(write_book(*PARTS), BOOK)
        facts = [("r", (-3, "ab"), (1, 10 ** 59)), ("r", (0, 0), (7, 10 ** 59)), ("r", (LONG, -LONG), (1, 2))]
        book = ((("none", 8), ("r", 2), ("table", 0)), tuple(facts))
        self.assertEqual(read_book(write_book(*book)), book)

    def test_the_number_of_columns(self):
        for count in range(9):
            self.check(f"table r {count}", (("r", count),))

    def test_twenty_tables(self):
        names = ["t" + letter for letter in "abcdefghijklmnopqrst"]
        lines = [f"table {name} {k % 9}" for k, name in enumerate(names)]
        self.check("\n".join(lines[::-1]), [(name, k % 9) for k, name in enumerate(names)])

    def test_integers(self):
        for number in (0, -1, 10, -20, LONG, -LONG, 10 ** 1000 - 1):
            text = str(number)
            self.check(f"table r 1\nr({text}) 1/2", [("r", 1)], ("r", (number,), (1, 2)))

    def test_long_chances(self):
        n, d = 10 ** 60 - 2, 10 ** 60 - 1
        self.check(f"table r 0\nr() {n}/{d}", [("r", 0)], ("r", (), (n, d)))

    def test_results_are_tuples(self):
        schema, store = read_book(BOOK)
        self.assertIs(type(read_book(BOOK)), tuple)
        self.assertIs(type(schema), tuple)
        self.assertIs(type(store), tuple)
        for part in schema + store + tuple([fact[1] for fact in store]) + tuple([fact[2] for fact in store]):
            self.assertIs(type(part), tuple)


class TestSpacesAndOrders(Reading):
    def test_spaces_between_all_tokens(self):
        for gap in (" ", "  ", " " * 50):
            lines = []
            for line in ("table|works|2", "table|rain|0", "works|(|\"ann\"|,|-3|)|1|/|2", "rain|(|)|0|/|1"):
                lines.append(gap + line.replace("|", gap) + gap)
            facts = [("rain", (), (0, 1)), ("works", ("ann", -3), (1, 2))]
            self.check("\n".join(lines), [("rain", 0), ("works", 2)], *facts)

    def test_no_spaces_where_none_is_needed(self):
        facts = [("rain", (), (0, 1)), ("works", ("ann", -3), (1, 2))]
        text = "table works2\ntable rain0\nworks(\"ann\",-3)1/2\nrain()0/1"
        self.check(text, [("rain", 0), ("works", 2)], *facts)

    def test_lines_with_nothing_but_spaces(self):
        for blank in ("", " ", "     "):
            text = blank + "\n" + BOOK.replace("\n", "\n" + blank + "\n") + "\n" + blank + "\n" + blank
            self.check(text, PARTS[0], *PARTS[1])

    def test_all_orders_of_the_lines(self):
        lines = BOOK.split("\n")
        for order in permutations(range(6)):
            text = "\n".join([lines[k] for k in order])
            behind = [order.index(k + 3) > order.index(k) for k in range(3)]
            if all(behind):
                self.assertEqual(read_book(text), PARTS)
            else:
                first = min(order.index(k + 3) for k in range(3) if not behind[k])
                self.check_bad(text, first, 0)

    def test_values_in_any_order(self):
        rows = ("\"b\"", "-1", "\"ab\"", "0", "-10", "10", "9")
        text = "table r 1\n" + "\n".join([f"r({row}) 1/2" for row in rows])
        order = (-10, -1, 0, 9, 10, "ab", "b")
        self.check(text, [("r", 1)], *[("r", (v,), (1, 2)) for v in order])

    def test_a_tab_is_no_space(self):
        self.check_bad("\t", 0, 0)
        self.check_bad("table\tr 1", 0, 5)
        self.check_bad("table r 1\t", 0, 9)
        self.check_bad("table r 0\n\nr()\t1/2", 2, 3)


class TestLinesOfTables(Reading):
    def test_a_line_that_ends_too_early(self):
        self.check_bad("table", 0, 5)
        self.check_bad("table   ", 0, 8)
        self.check_bad("table r", 0, 7)
        self.check_bad("  table r  ", 0, 11)
        self.check_bad("table r 1\ntable", 1, 5)

    def test_names(self):
        self.check_bad("table 1 1", 0, 6)
        self.check_bad("table \"r\" 1", 0, 6)
        self.check_bad("table ( 1", 0, 6)
        self.check_bad("table R 1", 0, 6)
        self.check_bad("table rR 1", 0, 7)

    def test_names_of_earlier_tables(self):
        self.check_bad("table r 1\ntable r 1", 1, 6)
        self.check_bad("table r 1\ntable s 2\n\n  table   r 2", 3, 10)
        self.check_bad("table r 1\ntable r x", 1, 6)
        self.check_bad("table table 1\ntable table 1", 1, 6)
        self.check("table rr 1\ntable r 1", [("r", 1), ("rr", 1)])

    def test_the_number(self):
        for text in ("-1", "9", "10", str(LONG), str(-LONG), "x", "\"a\"", "(", "/"):
            self.check_bad(f"table r {text}", 0, 8)
        self.check_bad("table r 01", 0, 8)
        self.check_bad("table r -0", 0, 8)
        self.check_bad("table r 0 0", 0, 10)

    def test_tokens_behind_the_number(self):
        for text in ("1", "x", "\"a\"", "(", ",", "/", "table"):
            self.check_bad(f"table r 1 {text}", 0, 10)
        self.check_bad("table r 1.", 0, 9)
        self.check_bad("table r 1x", 0, 9)

    def test_the_line_of_a_table_comes_before_its_facts(self):
        self.check_bad("r(1) 1/2\ntable r 1", 0, 0)
        self.check_bad("table s 1\n r(1) 1/2\ntable r 1", 1, 1)
        facts = [("r", (1,), (1, 2)), ("s", (), (1, 2))]
        self.check("table s 0\ns() 1/2\ntable r 1\nr(1) 1/2", [("r", 1), ("s", 0)], *facts)

    def test_facts_of_the_table_called_table(self):
        self.check("table table 1\ntable(2) 1/2", [("table", 1)], ("table", (2,), (1, 2)))
        self.check("table table 0\ntable() 1/2\ntable r 1", [("r", 1), ("table", 0)], ("table", (), (1, 2)))
        self.check_bad("table table 1\ntable 2", 1, 6)
        self.check_bad("table table 1\ntable", 1, 5)
        self.check_bad("table table 1\ntable \"a\"", 1, 6)
        self.check_bad("table table 1\ntable()", 1, 6)

    def test_the_bracket_behind_table_fits_only_if_there_is_this_table(self):
        self.check_bad("table(2) 1/2", 0, 5)
        self.check_bad("table r 1\ntable (2) 1/2", 1, 6)
        self.check_bad("table(2) 1/2\ntable table 1", 0, 5)
        self.check_bad("table /", 0, 6)


class TestLinesOfFacts(Reading):
    tables = "table open 1\ntable rain 0\ntable works 2"

    def check_fact(self, line, at):
        self.check_bad_line(self.tables, line, at)

    def test_the_first_token(self):
        for text in ("1", "\"open\"", "-5", "ope", "openn", "Open", "none") + tuple("()[],;/*!"):
            self.check_fact(f"{text} (1) 1/2", 0)
            self.check_fact(f"   {text} (1) 1/2", 3)

    def test_the_opening_bracket(self):
        for text in (")", "[", "1", "\"a\"", "x", ",", "open", "/"):
            self.check_fact(f"open {text}1) 1/2", 5)
        self.check_fact("open", 4)
        self.check_fact("open  ", 6)

    def test_values(self):
        quoted = ("\"", "\"\"", "\"a", "\"A\"", "\"a1\"", "\"a \"", "'a'")
        for text in ("x", ")", "(", ",", "/", "01", "-", "-0", "--1", "+1") + quoted:
            self.check_fact(f"open({text}) 1/2", 5)
            self.check_fact(f"works(1, {text}) 1/2", 9)
        self.check_fact("open(", 5)
        self.check_fact("open( ", 6)

    def test_too_few_and_too_many_values(self):
        self.check_fact("open() 1/2", 5)
        self.check_fact("open(1, 2) 1/2", 6)
        self.check_fact("open(1,) 1/2", 6)
        self.check_fact("rain(1) 1/2", 5)
        self.check_fact("rain(,) 1/2", 5)
        self.check_fact("works() 1/2", 6)
        self.check_fact("works(1) 1/2", 7)
        self.check_fact("works(1 2) 1/2", 8)
        self.check_fact("works(1, 2, 3) 1/2", 10)
        self.check_fact("works(1,", 8)
        self.check_fact("works(1", 7)

    def test_tokens_without_a_gap(self):
        self.check_fact("works(1-2) 1/2", 7)
        self.check_fact("works(\"a\"\"b\") 1/2", 9)
        self.check_fact("open(1x) 1/2", 6)
        self.check_fact("open(1 0) 1/2", 7)
        self.check_fact("op en(1) 1/2", 0)

    def test_the_chance(self):
        for text in ("-1/2", "x", "/2", "\"a\"", "(", "00/1", "01/2", "-0/1", "."):
            self.check_fact(f"open(1) {text}", 8)
        self.check_fact("open(1)", 7)
        self.check_fact("open(1)   ", 10)
        self.check_fact("open(1) 1", 9)
        self.check_fact("open(1) 1 2", 10)
        self.check_fact("open(1) 1/", 10)
        self.check_fact("open(1) 1 / ", 12)
        self.check_fact("open(1) 1*2", 9)
        self.check_fact("open(1) 1.5", 9)

    def test_the_denominator(self):
        greater = ("3/2", "2/1", "7/1", "5/4")
        for text in ("0/2", "2/4", "6/9", "2/2", "1/0", "0/0", "1/-2", "0/-1", "1/02", "1/x") + greater:
            self.check_fact(f"open(1) {text}", 10)
        self.check_fact(f"open(1) 3/{3 * 10 ** 58}", 10)
        self.check_fact(f"open(1) {10 ** 59}/{10 ** 59 - 1}", 69)
        for text in ("0/1", "1/1", "1/2", "2/3", "7/8", f"1/{10 ** 59}"):
            self.assertEqual(len(read_book(f"{self.tables}\nopen(1) {text}")[1]), 1)

    def test_tokens_behind_the_chance(self):
        for text in ("1", "x", "/", "/3", "open", "(", "\"a\"", "#"):
            self.check_fact(f"open(1) 1/2 {text}", 12)
        self.check_fact("open(1) 1/2/3", 11)
        self.check_fact("open(1) 1/2, open(2) 1/2", 11)
        self.check_fact("open(1) 1/2x", 11)

    def test_characters_that_begin_no_token(self):
        for sign in "#$%&'+.:<=>?@ABZ\\^_`{|}~\t-":
            self.check_fact(sign, 0)
            self.check_fact("open" + sign, 4)
            self.check_fact(f"open({sign}", 5)
            self.check_fact(f"open(1) 1/2{sign}", 11)

    def test_what_comes_first_is_told(self):
        self.check_fact("open(x) #", 5)
        self.check_fact("open(#) x", 5)
        self.check_fact("open(1, # 1/2", 6)
        self.check_fact("open(1) 2/4 #", 10)
        self.check_fact("# open(", 0)
        self.check_fact("open(1) 007/8", 8)

    def test_a_newline_ends_the_line(self):
        self.check_bad(self.tables + "\nopen(1)\n1/2", 3, 7)
        self.check_bad(self.tables + "\nopen(\n1) 1/2", 3, 5)
        self.check_bad("table\nr 1", 0, 5)
        self.check_bad("table r\n1", 0, 7)


class TestWhichErrorIsDue(Reading):
    def test_the_first_line_with_a_fault(self):
        self.check_bad("table r 1\nr(1) 2/4\nr(x) 1/2\ntable r 1", 1, 7)
        self.check_bad("table r 1\n\n  \nr(1) 1/2\ntable\nr(", 4, 5)
        self.check_bad("x\ntable r 9", 0, 0)

    def test_double_facts(self):
        self.check_double("table r 1\nr(1) 1/2\nr(1) 1/2")
        self.check_double("table r 1\nr(1) 1/2\nr(2) 1/2\n\n r ( 1 )1/3")
        self.check_double("table r 0\nr() 0/1\nr() 1/1")
        self.check_double("table s 0\ntable r 2\nr(1, \"a\") 1/2\ns() 1/2\nr(1,\"a\") 1/2")

    def test_equal_rows_of_different_tables(self):
        text = "table r 1\ntable s 1\nr(1) 1/2\ns(1) 1/2\nr(\"a\") 1/2\nr(-1) 1/2"
        self.assertEqual(len(read_book(text)[1]), 4)

    def test_bad_text_comes_before_double_fact(self):
        self.check_bad("table r 1\nr(1) 1/2\nr(1) 1/2\nr(1) 2/4", 3, 7)
        self.check_bad("table r 1\nr(1) 1/2\nr(1) 1/2\ntable s", 3, 7)
        self.check_bad("table r 1\nr(1) 1/2\nr(1) 2/4", 2, 7)
        self.check_bad("table r 1\nr(1) 1/2\nr(1) 1/2\n#", 3, 0)

    def test_a_long_text(self):
        lines = ["table r 1"] + [f"r({k}) 1/{k + 2}" for k in range(200)]
        text = "\n".join(lines)
        self.assertEqual(len(read_book(text)[1]), 200)
        self.check_bad(text + "\n" + " " * (19000 - len(text)) + "r", 201, 19001 - len(text))


if __name__ == "__main__":
    unittest.main()
