"""Tables: what is under what, and the closed tables by which a goal is not derived."""

from fivefault.closure import Closure
from fivefault.rules import MAX_TERMS, question_terms, vocabulary
from fivefault.syntax import is_goal
from fivefault.terms import subterms


def under_pairs(rules, goal=None):
    """Return the list of all pairs (s, t) with s under t, ascending by texts. Raises the errors of check_rules."""
    return Closure(rules, vocabulary(rules, goal)).term_pairs()


def table_of(rules, goal):
    """Return what under_pairs returns, or None if the goal is among it. Raises the errors of check_rules."""
    closure = Closure(rules, question_terms(rules, goal))
    return closure.term_pairs() if closure.number_of(goal) is None else None


def is_table(rules, goal, table):
    """Return whether a value is a table for a rule list and a goal. Raises the errors of check_rules."""
    needed = question_terms(rules, goal)
    pairs = table_pairs(table)
    if pairs is None or goal in pairs:
        return False
    numbers = numbered_terms(pairs)
    if not all([part in numbers for term in [*needed, *numbers] for part in subterms(term)]):
        return False
    bases = [(term, term) for term in numbers] + [(left, right) for name, left, right in rules]
    if not all([pair in pairs for pair in bases]):
        return False
    above = masks_of(numbers, list(pairs))
    below = masks_of(numbers, [(right, left) for left, right in pairs])
    return is_transitive(above) and binds_wholes(numbers, below, "&") and binds_wholes(numbers, above, "|")


def table_pairs(table):
    """Return the pairs of a list as the keys of a dict, or None if they are no different pairs of few terms."""
    if not isinstance(table, (list, tuple)):
        return None
    pairs = {}
    for pair in table:
        if not is_goal(pair) or pair in pairs:
            return None
        pairs[pair] = True
        # The terms of a table have no more pairs than this, so a longer list is not walked to its end.
        if len(pairs) > MAX_TERMS * MAX_TERMS:
            return None
    return pairs if len(numbered_terms(pairs)) <= MAX_TERMS else None


def numbered_terms(pairs):
    """Return a dict that numbers the terms of pairs."""
    numbers = {}
    for pair in pairs:
        for term in pair:
            numbers.setdefault(term, len(numbers))
    return numbers


def masks_of(numbers, pairs):
    """Return a mask for each numbered term: its binary digits say which terms stand behind it in a pair."""
    masks = [0 for term in numbers]
    for one, other in pairs:
        at = numbers[one]
        masks[at] = masks[at] | 1 << numbers[other]
    return masks


def is_transitive(masks):
    """Return whether whatever stands behind a term, by these masks, has nothing behind it that the term has not."""
    for one in range(len(masks)):
        for other in range(len(masks)):
            if masks[one] >> other & 1 and masks[one] | masks[other] != masks[one]:
                return False
    return True


def binds_wholes(numbers, masks, sign):
    """Return whether each numbered term with an operator is bound to its parts as a table asks for.

    With what is below them for "&" and what is above them for "|", both operators ask for the same.
    """
    for term, at in numbers.items():
        if term[0] == sign:
            common = masks[numbers[term[1]]]
            for part in term[2:]:
                common = common & masks[numbers[part]]
            # The whole is common to all its parts, and what is common to all parts is at the whole.
            if not common >> at & 1 or common | masks[at] != masks[at]:
                return False
    return True
