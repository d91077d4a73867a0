"""The tokens of a text, taken one by one from the left."""

from whomaywhat.errors import BadText
from whomaywhat.words import LETTERS

DIGITS = "0123456789"
SIGNS = "(){},/."
MOST_DIGITS = 60


class Scanner:
    """The tokens of one line of a text, and the next one of them.

    A token is a triple of its kind, its value and its column. Its kind is "word", "name",
    "integer", "sign", "bad" (something that begins no token) or "end" (the end of the line).
    """

    def __init__(self, text, line):
        self.line = line
        self.tokens = _tokens_of(text)
        self.at = 0

    def sees(self, kind):
        """True if the next token is of this kind."""
        return self.tokens[self.at][0] == kind

    def value(self):
        """The value of the next token."""
        return self.tokens[self.at][1]

    def sees_sign(self, sign):
        """True if the next token is this sign."""
        return self.sees("sign") and self.value() == sign

    def refuse(self):
        """Raises the error for the next token."""
        raise BadText(self.line, self.tokens[self.at][2])

    def take(self, kind):
        """The value of the next token, which is passed over; it must be of this kind."""
        if not self.sees(kind):
            self.refuse()
        value = self.value()
        self.at += 1
        return value

    def take_sign(self, sign):
        """Passes over the next token, which must be this sign."""
        if not self.sees_sign(sign):
            self.refuse()
        self.at += 1

    def take_end(self):
        """Checks that no token is left."""
        if not self.sees("end"):
            self.refuse()


def _tokens_of(text):
    """The tokens up to the first bad one, which is the last that is ever looked at."""
    tokens = []
    at = _run_end(text, 0, " ")
    while at < len(text):
        kind, value, end = _token_at(text, at)
        tokens.append((kind, value, at + 1))
        if kind == "bad":
            return tokens
        at = _run_end(text, end, " ")
    tokens.append(("end", "", len(text) + 1))
    return tokens


def _token_at(text, at):
    """The kind and the value of the token at this place, and the place behind it."""
    first = text[at]
    if first in SIGNS:
        return ("sign", first, at + 1)
    if first in LETTERS:
        end = _run_end(text, at, LETTERS)
        return ("word", text[at:end], end)
    if first == '"':
        end = _run_end(text, at + 1, LETTERS)
        if text[end:end + 1] == '"':
            return ("name", text[at + 1:end], end + 1)
        return ("bad", "", at)
    return _integer_at(text, at)


def _integer_at(text, at):
    start = at + 1 if text[at] == "-" else at
    end = _run_end(text, start, DIGITS)
    digits = text[start:end]
    if digits == "" or len(digits) > MOST_DIGITS:
        return ("bad", "", at)
    if digits[0] == "0" and text[at:end] != "0":
        return ("bad", "", at)
    return ("integer", int(text[at:end]), end)


def _run_end(text, at, characters):
    """The place behind the longest run of these characters that begins here."""
    while at < len(text) and text[at] in characters:
        at += 1
    return at
