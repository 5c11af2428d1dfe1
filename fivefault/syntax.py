"""The texts of terms, goals and rules."""

from fivefault.errors import InvalidGoal, InvalidRules, InvalidText
from fivefault.terms import MAX_DEPTH, is_letter, is_term, measured_long

NAME_LETTERS = "abcdefghijklmnopqrstuvwxyz"
MAX_NAME = 6
SIGNS = (" & ", " | ")


def is_name(text):
    """Return whether a string is a name."""
    if not isinstance(text, str) or len(text) < 1 or len(text) > MAX_NAME:
        return False
    return all([letter in NAME_LETTERS for letter in text])


def is_goal(value):
    """Return whether a value is a pair of terms."""
    return isinstance(value, tuple) and len(value) == 2 and is_term(value[0]) and is_term(value[1])


def is_rule(value):
    """Return whether a value is a tuple of a name and two terms."""
    return isinstance(value, tuple) and len(value) == 3 and is_name(value[0]) and is_goal(value[1:])


def format_term(term):
    """Return the text of a long term. Raises InvalidTerm."""
    measured_long(term)
    return term_text(term)


def term_text(term):
    """Return the text of what is known to be a long term."""
    if is_letter(term):
        return term
    texts = [part_text(part) for part in term[1:]]
    return f" {term[0]} ".join(texts)


def part_text(part):
    """Return the text of a part, as it stands in the text of its term."""
    text = term_text(part)
    return text if is_letter(part) else f"({text})"


def parse_term(text):
    """Return the term of a text. Raises InvalidText."""
    term, end = read_term(text, 0, MAX_DEPTH)
    if end < len(text) or not is_term(term):
        raise InvalidText()
    return term


def read_term(text, at, levels):
    """Return the longest term that begins at an index, and the index behind it.

    The levels bound the depth, so that many parentheses are refused and not followed.
    """
    first, at = read_part(text, at, levels)
    sign = text[at:at + 3]
    if sign not in SIGNS:
        if not is_letter(first):
            raise InvalidText()
        return first, at
    parts = [first]
    while text[at:at + 3] == sign:
        part, at = read_part(text, at + 3, levels)
        parts.append(part)
    return (sign[1], *parts), at


def read_part(text, at, levels):
    """Return the letter or the term in parentheses at an index, and the index behind it."""
    if is_letter(text[at:at + 1]):
        return text[at], at + 1
    if levels == 0 or text[at:at + 1] != "(":
        raise InvalidText()
    part, at = read_term(text, at + 1, levels - 1)
    if is_letter(part) or text[at:at + 1] != ")":
        raise InvalidText()
    return part, at + 1


def format_goal(goal):
    """Return the text of a goal. Raises InvalidGoal."""
    if not is_goal(goal):
        raise InvalidGoal()
    left, right = goal
    return f"{term_text(left)} < {term_text(right)}"


def parse_goal(text):
    """Return the goal of a text. Raises InvalidText."""
    # Without the sign the right side is empty, which is not the text of a term.
    left, sign, right = text.partition(" < ")
    return (parse_term(left), parse_term(right))


def format_rule(rule):
    """Return the text of a rule. Raises InvalidRules with the index 0."""
    if not is_rule(rule):
        raise InvalidRules(0)
    return f"{rule[0]}: {format_goal(rule[1:])}"


def parse_rule(text):
    """Return the rule of a text. Raises InvalidText."""
    name, sign, goal = text.partition(": ")
    if not is_name(name):
        raise InvalidText()
    left, right = parse_goal(goal)
    return (name, left, right)
