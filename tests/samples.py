"""Values for the tests, and what the document says of them, written once more and independently."""

import itertools
import random

LETTERS = ["a", "b", "c", "d", "e", "f", "g", "h"]


def plain_depth(term):
    if isinstance(term, str):
        return 1
    return 1 + max(plain_depth(part) for part in term[1:])


def plain_size(term):
    if isinstance(term, str):
        return 1
    return sum(plain_size(part) for part in term[1:])


def plain_walk(term):
    rows = [term]
    if isinstance(term, tuple):
        for part in term[1:]:
            rows += plain_walk(part)
    return rows


def plain_text(term):
    if isinstance(term, str):
        return term
    texts = [part if isinstance(part, str) else "(" + plain_text(part) + ")" for part in term[1:]]
    return (" " + term[0] + " ").join(texts)


def has_form(value):
    """Whether a value is a letter or an operator with two or more parts, without bounds."""
    if isinstance(value, tuple):
        rightful = len(value) > 2 and (value[0] == "&" or value[0] == "|")
        return rightful and all(has_form(part) for part in value[1:])
    return isinstance(value, str) and value in LETTERS


def tower(depth, wide=2):
    """A term with this depth, with letters beside each level. Its size is 1 + (depth - 1) * (wide - 1)."""
    term = "a"
    for level in range(1, depth):
        beside = [LETTERS[(level + at) % 8] for at in range(wide - 1)]
        term = ("&|"[level % 2], term, *beside)
    return term


def row(size, operator="&"):
    """A term with depth 2 and this size."""
    return (operator, *[LETTERS[at % 8] for at in range(size)])


def bushy(depth, size):
    """A term with exactly this depth and this size."""
    term = tower(depth)
    missing = size - plain_size(term)
    return term + tuple("h" for _ in range(missing))


def small_terms(letters="ab", width=3):
    """All terms with depth 1 to 3 whose inner parts have two parts."""
    names = list(letters)
    flat = [(sign, *parts) for sign in "&|" for parts in itertools.product(names, repeat=2)]
    found = names + flat
    for count in range(2, width + 1):
        for parts in itertools.product(names + flat[::3], repeat=count):
            found += [("&", *parts), ("|", *parts)]
    return list(dict.fromkeys(found))


def random_term(source, depth, size):
    """A term with at most this depth and this size."""
    if depth == 1 or size < 2 or source.random() < 0.15:
        return source.choice(LETTERS)
    count = source.randint(2, min(4, size))
    left = size - count
    parts = []
    for at in range(count):
        extra = source.randint(0, left) if at + 1 < count else left
        left -= extra
        parts.append(random_term(source, depth - 1, 1 + extra))
    source.shuffle(parts)
    return (source.choice("&|"), *parts)


def random_terms(count, depth=5, size=24, seed=1):
    source = random.Random(seed)
    return [random_term(source, depth, source.randint(1, size)) for _ in range(count)]


ATOMS = ["", "a", "b", "h", "i", "A", "ab", "abcdefgh", "&", "|", "&&", " a", "a & b", 0, 1, -1, 10 ** 29, True, False,
         None]


def random_value(source, depth):
    """Nested tuples and lists of strings, integers, True, False and None, at most this deep."""
    if depth == 0 or source.random() < 0.2:
        return source.choice(ATOMS)
    items = [random_value(source, depth - 1) for _ in range(source.randint(0, 3))]
    if source.random() < 0.7:
        items = [source.choice("&|")] + items
    return tuple(items) if source.random() < 0.8 else items


def random_values(count, seed=2):
    source = random.Random(seed)
    return [random_value(source, source.randint(0, 12)) for _ in range(count)]


def spoiled(source, term):
    """A term with one of its subterms replaced by something that is no term."""
    if isinstance(term, str) or source.random() < 0.2:
        wrong = ["i", "", "ab", "A", 1, 0, True, False, None, [], (), ("&",), ("|", "a"), ("&", "b"), ["&", "a", "b"],
                 ("+", "a", "b"), ("&&", "a", "b"), (None, "a", "b"), ("a", "b", "c"), (("&", "a", "b"), "a", "b")]
        return source.choice(wrong)
    at = source.randrange(1, len(term))
    return term[:at] + (spoiled(source, term[at]),) + term[at + 1:]


def chain_of(depth, kind, bottom):
    """A value that is nested this deep in tuples or lists."""
    value = bottom
    for _ in range(depth):
        value = kind(["&", value, "a"])
    return value


def no_long_terms():
    """Values that are neither terms nor long terms."""
    source = random.Random(3)
    found = [spoiled(source, term) for term in random_terms(150, seed=4)]
    found += [value for value in random_values(300) if not has_form(value)]
    found += [chain_of(deep, tuple, bottom) for deep in range(1, 13) for bottom in ("i", 0, True, None, "", [])]
    found += [chain_of(deep, list, "a") for deep in range(1, 13)]
    found += [tower(10), tower(12), row(601), row(1200, "|"), bushy(9, 601), bushy(10, 600)]
    found += ATOMS[0:1] + ATOMS[4:]
    return found


def terms():
    """Terms, also at both bounds."""
    edges = LETTERS + [tower(deep) for deep in range(1, 6)] + [row(wide) for wide in range(2, 25)]
    edges += [bushy(deep, 24) for deep in range(2, 6)]
    edges += [("&", "a", "a"), ("|", ("&", "a", "b"), ("&", "a", "b"))]
    return edges + small_terms() + random_terms(300)


def only_long_terms():
    """Long terms that are not terms, also at both bounds."""
    found = [tower(deep) for deep in range(6, 10)] + [row(wide, "|") for wide in (25, 26, 100, 599, 600)]
    found += [bushy(deep, wide) for deep in (5, 6, 9) for wide in (25, 100, 599, 600)]
    more = random_terms(60, depth=9, size=600, seed=5)
    return found + [term for term in more if plain_depth(term) > 5 or plain_size(term) > 24]
