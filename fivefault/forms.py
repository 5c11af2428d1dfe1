"""Terms without rules: what is always below what, and least forms."""

from fivefault.free import FreeOrder
from fivefault.syntax import term_text
from fivefault.terms import checked_term, is_letter


def always_below(left, right):
    """Return whether a term is always below another one. Raises InvalidTerm."""
    return FreeOrder().holds(checked_term(left), checked_term(right))


def equal_everywhere(one, other):
    """Return whether each one of two terms is always below the other one. Raises InvalidTerm."""
    return always_below(one, other) and always_below(other, one)


def free_steps(left, right):
    """Return a derivation without rules, or None if left is not always below right. Raises InvalidTerm."""
    order = FreeOrder()
    if not order.holds(checked_term(left), checked_term(right)):
        return None
    steps = []
    add_steps(order, left, right, steps, {})
    return steps


def add_steps(order, left, right, steps, numbers):
    """Add the steps of a pair that holds, and return the index of its own step.

    The numbers are the indexes of the pairs whose steps have been added.
    """
    if (left, right) not in numbers:
        word, pairs = order.way_of(left, right)
        indexes = [add_steps(order, one, other, steps, numbers) for one, other in pairs]
        if word == "down":
            steps.append((left, pairs[0][0], ("part",)))
            reason = ("chain", len(steps) - 1, *indexes)
        elif word == "up":
            steps.append((pairs[0][1], right, ("part",)))
            reason = ("chain", *indexes, len(steps) - 1)
        else:
            reason = (word, tuple(indexes)) if len(pairs) > 0 else (word,)
        steps.append((left, right, reason))
        numbers[(left, right)] = len(steps) - 1
    return numbers[(left, right)]


def least_form(term):
    """Return the term in least form that is equal everywhere to a term. Raises InvalidTerm."""
    return least(FreeOrder(), checked_term(term))


def is_least(term):
    """Return whether a term is in least form. Raises InvalidTerm."""
    # A term is equal everywhere to exactly one term in least form, which is itself if it is in least form.
    return least_form(term) == term


def least(order, term):
    """Return what least_form returns, by what is decided in an order so far."""
    if is_letter(term):
        return term
    sign = term[0]
    parts = merged_parts(sign, [least(order, part) for part in term[1:]])
    while True:
        parts = outer_parts(order, sign, parts)
        if len(parts) == 1:
            return parts[0]
        closer = closer_parts(order, sign, parts)
        if closer is None:
            return (sign, *sorted(parts, key=term_text))
        parts = closer


def counts_less(order, sign, one, other):
    """Return whether one term adds nothing beside another one, as parts under an operator."""
    return order.holds(one, other) if sign == "|" else order.holds(other, one)


def merged_parts(sign, parts):
    """Return the list of parts with the parts of those that have the operator themselves in their place."""
    merged = []
    for part in parts:
        merged.extend(part[1:] if part[0] == sign else [part])
    return merged


def outer_parts(order, sign, parts):
    """Return the list of the parts that add something, each one once."""
    found = []
    for part in parts:
        if not any([counts_less(order, sign, part, other) for other in found]):
            found = [other for other in found if not counts_less(order, sign, other, part)]
            found.append(part)
    return found


def closer_parts(order, sign, parts):
    """Return the parts with one of them replaced by a part of it that adds nothing to the whole, or None."""
    whole = (sign, *parts)
    for at, part in enumerate(parts):
        inner = () if is_letter(part) else part[1:]
        for piece in inner:
            if counts_less(order, sign, piece, whole):
                return merged_parts(sign, [*parts[:at], piece, *parts[at + 1:]])
    return None
