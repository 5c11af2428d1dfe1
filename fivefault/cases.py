"""Cases: letters that are True or False, and the trees of cases by which a goal is kept."""

from fivefault.rules import question_terms
from fivefault.terms import is_letter, measured_long


def truth(term, case):
    """Return the truth of a long term under a case: True, False, or None if it is open. Raises InvalidTerm."""
    measured_long(term)
    return truth_under(term, case)


def truth_under(term, case):
    """Return what truth returns, for what is known to be a long term."""
    if is_letter(term):
        return case.get(term)
    found = [truth_under(part, case) for part in term[1:]]
    # One part with this truth decides the term, whatever the other ones are.
    decisive = term[0] == "|"
    if decisive in found:
        return decisive
    return None if None in found else not decisive


def keeps_pair(case, left, right):
    """Return whether a case keeps a pair of terms."""
    return truth_under(left, case) is False or truth_under(right, case) is True


def breaks_pair(case, left, right):
    """Return whether a case breaks a pair of terms."""
    return truth_under(left, case) is True and truth_under(right, case) is False


def breaks_goal(case, rules, goal):
    """Return whether a case keeps all rules and breaks the goal."""
    return breaks_pair(case, *goal) and all([keeps_pair(case, left, right) for name, left, right in rules])


def cases(rules, goal):
    """Yield all cases for the letters of the vocabulary that keep all rules and break the goal, in ascending order.

    Raises the errors of check_rules.
    """
    names = letters_among(question_terms(rules, goal))
    # The list of the rules may be changed by the caller between two cases.
    kept = list(rules)
    for number in range(1 << len(names)):
        case = numbered_case(names, number)
        if breaks_goal(case, kept, goal):
            yield case


def letters_among(terms):
    """Return the list of the letters in a vocabulary, which are in ascending order there."""
    return [term for term in terms if is_letter(term)]


def numbered_case(names, number):
    """Return the case in which the letters have the binary digits of a number, the last letter the lowest one."""
    last = len(names) - 1
    return {name: number >> last - at & 1 == 1 for at, name in enumerate(names)}


def first_case(rules, goal):
    """Return the first one of the cases, or None. Raises the errors of check_rules."""
    for case in cases(rules, goal):
        return case
    return None


def case_tree(rules, goal):
    """Return a tree, or None if there is none. Raises the errors of check_rules."""
    names = letters_among(question_terms(rules, goal))
    return tree_under(rules, goal, {}, names)


def tree_under(rules, goal, case, names):
    """Return a tree under a case that has no value for these names, or None if there is none."""
    for name, left, right in rules:
        if breaks_pair(case, left, right):
            return ("rule", name)
    if keeps_pair(case, *goal):
        return ("goal",)
    if len(names) == 0:
        return None
    one = tree_under(rules, goal, {**case, names[0]: False}, names[1:])
    other = None if one is None else tree_under(rules, goal, {**case, names[0]: True}, names[1:])
    return None if other is None else (names[0], one, other)


def is_tree(rules, goal, tree):
    """Return whether a value is a tree for a rule list and a goal. Raises the errors of check_rules."""
    question_terms(rules, goal)
    return is_tree_under(rules, goal, tree, {})


def is_tree_under(rules, goal, tree, case):
    """Return whether a value is a tree under a case."""
    if not isinstance(tree, tuple):
        return False
    if tree == ("goal",):
        return keeps_pair(case, *goal)
    if len(tree) == 2 and tree[0] == "rule":
        return any([name == tree[1] and breaks_pair(case, left, right) for name, left, right in rules])
    if len(tree) != 3 or not is_letter(tree[0]) or tree[0] in case:
        return False
    letter, one, other = tree
    if not is_tree_under(rules, goal, one, {**case, letter: False}):
        return False
    return is_tree_under(rules, goal, other, {**case, letter: True})
