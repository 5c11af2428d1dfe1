"""What the document says of terms without rules, written once more, and terms that are rewritten."""

import functools

from tests import questions, samples


@functools.lru_cache(maxsize=None)
def plain_below(left, right):
    """[16], by the parts of both terms: all parts of a left "|" and of a right "&", or one part of the others."""
    if isinstance(left, str) and isinstance(right, str):
        return left == right
    if left[0] == "|":
        return all(plain_below(part, right) for part in left[1:])
    if right[0] == "&":
        return all(plain_below(left, part) for part in right[1:])
    if left[0] == "&" and any(plain_below(part, right) for part in left[1:]):
        return True
    return right[0] == "|" and any(plain_below(left, part) for part in right[1:])


def plain_equal(one, other):
    return plain_below(one, other) and plain_below(other, one)


def derived_below(left, right):
    """[16], by all that can be derived: slow, but by nothing but the words of [10]."""
    terms = sorted({*samples.plain_walk(left), *samples.plain_walk(right)}, key=samples.plain_text)
    return (left, right) in questions.plain_under([], terms)


def is_plain_least(term):
    """[17], sentence by sentence."""
    if isinstance(term, str):
        return True
    sign, parts = term[0], term[1:]
    texts = [samples.plain_text(part) for part in parts]
    if not all(is_plain_least(part) for part in parts):
        return False
    if texts != sorted(texts) or len(set(texts)) != len(texts):
        return False
    if any(part[0] == sign for part in parts):
        return False
    if any(plain_below(one, other) for one in parts for other in parts if one != other):
        return False
    for part in parts:
        for piece in part[1:] if isinstance(part, tuple) else ():
            if plain_below(piece, term) if sign == "|" else plain_below(term, piece):
                return False
    return True


def rewritten_once(source, term):
    """The term with one law used at the top of it: the result is equal everywhere to it."""
    way = source.randrange(7)
    other = source.choice([*samples.LETTERS, ("&", "a", "h"), ("|", "c", "b")])
    sign = source.choice("&|")
    if way == 0 or isinstance(term, str):
        return source.choice([("&", term, term), ("|", term, term), (sign, term, ("|" if sign == "&" else "&", term, other)),
                              (sign, ("|" if sign == "&" else "&", other, term), term), term])
    parts = list(term[1:])
    if way == 1:
        source.shuffle(parts)
    elif way == 2:
        parts.insert(source.randrange(len(parts) + 1), source.choice(parts))
    elif way == 3 and len(parts) > 2:
        at = source.randrange(len(parts) - 1)
        parts[at:at + 2] = [(term[0], *parts[at:at + 2])]
    elif way == 4:
        parts = [piece for part in parts for piece in (part[1:] if part[0] == term[0] else [part])]
    elif way == 5:
        turned = "|" if term[0] == "&" else "&"
        parts.append((turned, source.choice(parts), other))
    else:
        parts = parts[::-1]
    return (term[0], *parts)


def rewritten(source, term, times):
    """The term with some laws used somewhere in it, as long as it stays a term."""
    for _ in range(times):
        other = rewritten_somewhere(source, term)
        if questions.is_plain_term(other):
            term = other
    return term


def rewritten_somewhere(source, term):
    if isinstance(term, str) or source.random() < 0.4:
        return rewritten_once(source, term)
    at = source.randrange(1, len(term))
    return term[:at] + (rewritten_somewhere(source, term[at]),) + term[at + 1:]


def raised(source, term, up=True):
    """A term above (or below) a term: parts are put in and left out so that the value only grows (or shrinks)."""
    growing, shrinking = ("|", "&") if up else ("&", "|")
    other = source.choice([*samples.LETTERS, ("&", "a", "b"), ("|", "d", "e")])
    if isinstance(term, str):
        return source.choice([term, term, (growing, term, other), (growing, other, term)])
    parts = [raised(source, part, up) if source.random() < 0.5 else part for part in term[1:]]
    if term[0] == growing and source.random() < 0.5:
        parts.insert(source.randrange(len(parts) + 1), other)
    if term[0] == shrinking and len(parts) > 2 and source.random() < 0.5:
        del parts[source.randrange(len(parts))]
    found = (term[0], *parts)
    if source.random() < 0.2:
        found = (growing, found, other)
    return found if questions.is_plain_term(found) else term


def large_terms():
    """Terms of the greatest size and depth."""
    found = [samples.bushy(5, 24), samples.row(24), samples.row(24, "|")]
    for flat in (("&", "|", "&", "|"), ("|", "&", "|", "&")):
        found.append(layered(flat, (3, 2, 2, 2), 0))
        found.append(layered(flat, (2, 3, 2, 2), 3))
        found.append(layered(flat, (2, 2, 2, 3), 5))
        found.append(layered(flat[:3], (4, 3, 2), 1))
        found.append(layered(flat[:2], (12, 2), 2))
        found.append(layered(flat[:2], (4, 6), 2))
    return found


def layered(signs, widths, start):
    """A term with these operators and numbers of parts from the top to the bottom; the letters follow one another."""
    letters = iter(samples.LETTERS[start:] + samples.LETTERS * 24)

    def layer(at):
        if at == len(signs):
            return next(letters)
        return (signs[at], *[layer(at + 1) for _ in range(widths[at])])

    return layer(0)
