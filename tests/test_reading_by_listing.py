"""Reading against lists of all short lines that can be read ([19]).

A token does not fit if no line that can be read begins with the tokens up to
this one. Here the lines with few tokens are listed, each from the grammar that
the document tells; the place of the fault in any other row of tokens follows
from the list alone.
"""

import random
import unittest

from rightchance.errors import BadText, NoQuestion
from rightchance.reading import read_book, read_plan, read_question

NAMES = {"r": 1, "t": 0, "table": 1}
VALUES = ("1", "0", "2", "-1", "4", "9", "\"a\"")
CHANCES = ((0, 1), (1, 1), (1, 2), (1, 4), (1, 9), (2, 9), (4, 9), (9, 10))
TERMS = ("x", "r", "t", "table", "none", "1")


def beginnings_of(lines):
    return {line[:length] for line in lines for length in range(len(line) + 1)}


def place_of_fault(lines, beginnings, tokens):
    """The index of the first token that does not fit, None if there is none; tokens may end too early, too."""
    for index in range(len(tokens)):
        if tokens[:index + 1] not in beginnings:
            return index
    return None if tokens in lines else len(tokens)


def text_of(tokens, source):
    """The text of the tokens with gaps between them, and the place of each of them and of the end."""
    text, places = "", []
    for token in tokens:
        text += " " * source.randint(1, 3)
        places.append(len(text))
        text += token
    return text, places + [len(text)]


def changed(tokens, alphabet, source):
    """The tokens with a token left out, put in or replaced, or cut off somewhere."""
    place = source.randint(0, len(tokens))
    behind = source.choice((place, place + 1))
    choice = source.choice(((), (source.choice(alphabet),), (source.choice(alphabet),), tokens[:0]))
    return tokens[:place] + choice + (() if source.random() < 0.1 else tokens[behind:])


def listed_between(items, brackets, counts, budget):
    """All rows of tokens with so many items in brackets, within the budget of tokens."""
    rows = [()]
    for count in range(max(counts) + 1):
        if count > 0:
            comma = (",",) if count > 1 else ()
            rows = [row + comma + (item,) for row in rows for item in items]
        if count in counts and 2 * count + 1 <= budget:
            yield from [(brackets[0],) + row + (brackets[1],) for row in rows]


def fact_lines():
    lines = []
    for name, columns in NAMES.items():
        for row in listed_between(VALUES, "()", (columns,), 9):
            for n, d in CHANCES:
                lines.append((name,) + row + (str(n), "/", str(d)))
    return lines + [("table", name, str(count)) for name in ("s", "q") for count in range(9)]


def atoms():
    for name, columns in NAMES.items():
        yield from [(name,) + row for row in listed_between(TERMS, "()", (columns,), 9)]


def bodies(budget):
    """All bodies within the budget of tokens."""
    yield ()
    found = [atom for atom in atoms() if len(atom) <= budget]
    while found:
        yield from found
        found = [body + (",",) + atom for body in found for atom in atoms() if len(body) + 1 + len(atom) <= budget]


def question_lines(budget):
    lines = [("none", str(width)) for width in range(10)]
    for width in range(5):
        heads = list(listed_between(TERMS, "[]", (width,), 12))
        behind = list(bodies(budget - len(heads[0])))
        joins = [head + body for head in heads for body in behind]
        found = [join for join in joins if len(join) <= budget]
        while found:
            lines.extend(found)
            found = [line + (";",) + join for line in found for join in joins if len(line) + 1 + len(join) <= budget]
    return lines


SCANS = (("r", "(", "x", ")"), ("t", "(", ")"))


def plan_lines(budget, kept):
    """All plans within the budget of tokens."""
    if budget not in kept:
        found = [scan for scan in SCANS if len(scan) <= budget]
        if budget > 4:
            found.extend(("!", word) + plan for word in ("x", "r", "t") for plan in plan_lines(budget - 2, kept))
            firsts = [("[",) + plan for plan in plan_lines(budget - 5, kept)]
            while firsts:
                room = budget - 2 - min(len(row) for row in firsts)
                plans = plan_lines(room, kept) if room > 2 else []
                firsts = [row + ("*",) + plan for row in firsts for plan in plans if len(row) + len(plan) + 2 <= budget]
                found.extend(row + ("]",) for row in firsts)
        kept[budget] = found
    return kept[budget]


class TestReadingByListing(unittest.TestCase):
    def check(self, lines, longest, alphabet, read, times):
        """Change rows of tokens that can be read, and read them; those that are changed are not the longest ones."""
        source = random.Random(7)
        known, beginnings = set(lines), beginnings_of(lines)
        short = sorted([line for line in lines if len(line) <= longest and set(line) <= set(alphabet)])
        faults = 0
        for _ in range(times):
            tokens = source.choice(short)
            for _ in range(source.randint(0, 2)):
                tokens = changed(tokens, alphabet, source)
            text, places = text_of(tokens[:longest], source)
            fault = place_of_fault(known, beginnings, tokens[:longest])
            with self.subTest(text=text):
                self.assertEqual(read(text), None if fault is None else places[fault])
            faults += fault is not None
        self.assertGreater(faults, times // 4)
        self.assertLess(faults, times)

    def test_lines_of_books(self):
        before = "\n".join([f"table {name} {columns}" for name, columns in NAMES.items()]) + "\n"

        def read(text):
            try:
                read_book(before + text)
            except BadText as fault:
                self.assertEqual(fault.line, 3)
                return fault.at
            return None

        alphabet = ("r", "t", "table", "s", "(", ")", ",", "/", "*") + VALUES
        # A row of tokens without any token can be read in a book, too.
        self.check(fact_lines() + [()], 9, alphabet, read, 4000)

    def test_questions(self):
        schema = tuple(sorted(NAMES.items()))

        def read(text):
            try:
                read_question(schema, text)
            except BadText as fault:
                return fault.at
            except NoQuestion:
                return None
            return None

        alphabet = TERMS + ("[", "]", "(", ")", ",", ";", "*")
        self.check(question_lines(12), 7, alphabet, read, 4000)

    def test_plans(self):
        join = ((), (("r", (("var", "x"),)), ("t", ())))

        def read(text):
            try:
                read_plan(join, text)
            except BadText as fault:
                return fault.at
            return None

        alphabet = ("r", "t", "x", "1", "[", "]", "(", ")", ",", "*", "!", "\"a\"")
        self.check(plan_lines(19, {}), 10, alphabet, read, 4000)


if __name__ == "__main__":
    unittest.main()
