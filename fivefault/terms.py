"""Terms: their form, their measures, and new terms from old ones."""

from fivefault.errors import InvalidLetter, InvalidTerm

LETTERS = "abcdefgh"
OPERATORS = ("&", "|")
MAX_DEPTH = 5
MAX_SIZE = 24
LONG_DEPTH = 9
LONG_SIZE = 600


def is_letter(value):
    """Return whether a value is a letter."""
    return isinstance(value, str) and len(value) == 1 and value in LETTERS


def is_compound(value):
    """Return whether a value is an operator with two or more parts, whatever the parts are."""
    return isinstance(value, tuple) and len(value) >= 3 and value[0] in OPERATORS


def measured(value, max_depth, max_size):
    """Return the pair (depth, size) of a term within these bounds, or None for any other value."""
    # The bounds shrink on the way down, so that a value far beyond them is not walked to its end.
    if max_depth < 1 or max_size < 1:
        return None
    if is_letter(value):
        return (1, 1)
    if not is_compound(value):
        return None
    deepest = 0
    total = 0
    for part in value[1:]:
        found = measured(part, max_depth - 1, max_size - total)
        if found is None:
            return None
        deepest = max(deepest, found[0])
        total = total + found[1]
    return (deepest + 1, total)


def is_term(value, *, max_depth=MAX_DEPTH, max_size=MAX_SIZE):
    """Return whether a value has the form of a term with at most this depth and this size."""
    return measured(value, max_depth, max_size) is not None


def checked_term(value):
    """Return a term unchanged. Raises InvalidTerm."""
    if not is_term(value):
        raise InvalidTerm()
    return value


def measured_long(value):
    """Return the pair (depth, size) of a long term. Raises InvalidTerm."""
    found = measured(value, LONG_DEPTH, LONG_SIZE)
    if found is None:
        raise InvalidTerm()
    return found


def joined(operator, parts):
    """Return the term of an operator and its parts, or the only part."""
    if len(parts) == 1:
        return checked_term(parts[0])
    return checked_term((operator, *parts))


def lower(*parts):
    """Return the "&" term with these parts, or the only part. Raises InvalidTerm."""
    return joined("&", parts)


def upper(*parts):
    """Return the "|" term with these parts, or the only part. Raises InvalidTerm."""
    return joined("|", parts)


def depth(term):
    """Return the depth of a long term. Raises InvalidTerm."""
    return measured_long(term)[0]


def size(term):
    """Return the number of letters of a long term, counting each occurrence. Raises InvalidTerm."""
    return measured_long(term)[1]


def letters(term):
    """Return the ascending list of the letters of a long term. Raises InvalidTerm."""
    parts = subterms(term)
    return [letter for letter in LETTERS if letter in parts]


def walk(term):
    """Yield a long term, and then what walking its parts yields, from left to right."""
    measured_long(term)
    waiting = [term]
    while waiting:
        found = waiting.pop()
        yield found
        if is_compound(found):
            # The first part goes in last, as the last one is taken out first.
            waiting.extend(found[:0:-1])


def subterms(term):
    """Return the list of what walk yields, each one once, by first occurrence. Raises InvalidTerm."""
    found = {}
    for part in walk(term):
        found[part] = True
    return list(found)


def turned(term):
    """Return a long term with its operators exchanged. Raises InvalidTerm."""
    measured_long(term)
    return with_turned_operators(term)


def with_turned_operators(term):
    """Return what turned returns, for what is known to be a long term."""
    if is_letter(term):
        return term
    operator = "|" if term[0] == "&" else "&"
    parts = [with_turned_operators(part) for part in term[1:]]
    return (operator, *parts)


def substituted(term, **replacements):
    """Return a term with each letter that is a keyword replaced by its term, all at once.

    Raises InvalidTerm for the first argument, then InvalidLetter, then InvalidTerm for the rest.
    """
    checked_term(term)
    names = sorted(replacements)
    for name in names:
        if not is_letter(name):
            raise InvalidLetter(name)
    for name in names:
        checked_term(replacements[name])
    return checked_term(with_replaced_letters(term, replacements))


def with_replaced_letters(term, replacements):
    """Return a term with its letters replaced as a dict says, whatever its depth and size are then."""
    if is_letter(term):
        return replacements.get(term, term)
    parts = [with_replaced_letters(part, replacements) for part in term[1:]]
    return (term[0], *parts)
