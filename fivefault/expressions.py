"""Expressions: terms that are put together with the signs & and |."""

from fivefault.errors import InvalidLetter
from fivefault.syntax import parse_term, term_text
from fivefault.terms import checked_term, is_letter, with_turned_operators


def leaves(term):
    """Return the list of the letters of a term from left to right, each occurrence."""
    if is_letter(term):
        return [term]
    return [letter for part in term[1:] for letter in leaves(part)]


class Expr:
    """An expression with a term."""

    def __init__(self, term):
        """Keep a term. Raises InvalidTerm."""
        self.held = checked_term(term)

    @classmethod
    def parse(cls, text):
        """Return the expression of the term of a text. Raises InvalidText."""
        return cls(parse_term(text))

    @staticmethod
    def many(text):
        """Return the list of the expressions of the letters in a string. Raises InvalidLetter."""
        for letter in text:
            if not is_letter(letter):
                raise InvalidLetter(letter)
        return [Expr(letter) for letter in text]

    @property
    def term(self):
        """The term of the expression."""
        return self.held

    def turned(self):
        """Return the expression of the turned term."""
        return Expr(with_turned_operators(self.held))

    def __and__(self, other):
        if not isinstance(other, Expr):
            return NotImplemented
        return Expr(("&", self.held, other.held))

    def __or__(self, other):
        if not isinstance(other, Expr):
            return NotImplemented
        return Expr(("|", self.held, other.held))

    def __eq__(self, other):
        return isinstance(other, Expr) and self.held == other.held

    def __contains__(self, x):
        return x in leaves(self.held)

    def __len__(self):
        return len(leaves(self.held))

    def __str__(self):
        return f"{term_text(self.held)}"

    def __repr__(self):
        return f"Expr({term_text(self.held)})"
