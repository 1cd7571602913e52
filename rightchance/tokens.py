"""The tokens of a line of text, and the reading of a line token by token."""

from rightchance.errors import BadText

SIGNS = "()[],;/*!"
DIGITS = "0123456789"
LETTERS = "abcdefghijklmnopqrstuvwxyz"


def tokens_of(text):
    """Return the list of the tokens of a line, as triples of their kind, their worth and their index in the line.

    The last one is no token: its kind is "end" at the end of the line, or
    "bad" at a character that begins no token. Neither of them fits anywhere.
    """
    tokens = []
    at = end_of_run(text, 0, " ")
    while at < len(text):
        kind, worth, behind = token_at(text, at)
        tokens.append((kind, worth, at))
        if kind == "bad":
            return tokens
        at = end_of_run(text, behind, " ")
    tokens.append(("end", "", len(text)))
    return tokens


def end_of_run(text, at, signs):
    """Return the index of the first character from at on that is none of the signs, or the length of the text."""
    while at < len(text) and text[at] in signs:
        at += 1
    return at


def token_at(text, at):
    """Return the kind and the worth of the token that begins at the index, and the index behind it."""
    sign = text[at]
    if sign in SIGNS:
        return ("sign", sign, at + 1)
    if sign in LETTERS:
        behind = end_of_run(text, at, LETTERS)
        return ("word", text[at:behind], behind)
    if sign == '"':
        return quoted_at(text, at)
    return integer_at(text, at)


def quoted_at(text, at):
    """Return what token_at returns for a word in double quotes."""
    behind = end_of_run(text, at + 1, LETTERS)
    if behind == at + 1 or text[behind:behind + 1] != '"':
        return ("bad", "", at)
    return ("value", text[at + 1:behind], behind + 1)


def integer_at(text, at):
    """Return what token_at returns for an integer, or for a character that begins no token."""
    first = at + 1 if text[at] == "-" else at
    behind = end_of_run(text, first, DIGITS)
    digits = text[first:behind]
    needless = digits.startswith("0") and text[at:behind] != "0"
    if digits == "" or needless:
        return ("bad", "", at)
    return ("value", int(text[at:behind]), behind)


class Line:
    """A line of a text, of which one token after the other is taken; a token that does not fit raises BadText."""

    def __init__(self, text, number):
        self.number = number
        self.tokens = tokens_of(text)
        self.taken = 0

    def kind(self):
        """Return the kind of the next token."""
        return self.tokens[self.taken][0]

    def worth(self):
        """Return the worth of the next token: its value, its word or its sign."""
        return self.tokens[self.taken][1]

    def refuse(self):
        """Raise BadText at the next token."""
        raise BadText(self.number, self.tokens[self.taken][2])

    def has_sign(self, sign):
        """Tell if the next token is the sign."""
        return self.kind() == "sign" and self.worth() == sign

    def has_word(self, word):
        """Tell if the next token is the word."""
        return self.kind() == "word" and self.worth() == word

    def take(self, kind):
        """Take the next token, which must have the kind, and return its worth."""
        if self.kind() != kind:
            self.refuse()
        worth = self.worth()
        self.taken += 1
        return worth

    def take_sign(self, sign):
        """Take the next token, which must be the sign."""
        if not self.has_sign(sign):
            self.refuse()
        self.taken += 1

    def take_word_of(self, words):
        """Take the next token, which must be one of the words, and return it."""
        if self.worth() not in words:
            self.refuse()
        return self.take("word")

    def take_integer(self, fits):
        """Take the next token, which must be an integer for which fits returns True, and return it."""
        if not isinstance(self.worth(), int) or not fits(self.worth()):
            self.refuse()
        return self.take("value")

    def take_this_term(self, term):
        """Take the next token, which must be the variable or the value of the term."""
        kind = "word" if term[0] == "var" else "value"
        if self.kind() != kind or self.worth() != term[1]:
            self.refuse()
        self.taken += 1

    def take_end(self):
        """Make sure that no token is left."""
        if self.kind() != "end":
            self.refuse()
