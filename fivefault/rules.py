"""Rule lists, goals and their vocabularies."""

from fivefault.errors import InvalidGoal, InvalidRules, NameInUse, TooManyTerms
from fivefault.syntax import is_goal, is_rule, term_text
from fivefault.terms import subterms

MAX_RULES = 12
MAX_TERMS = 24


def check_rules(rules, goal=None):
    """Return None for a rule list, with a goal or without one.

    Raises InvalidRules, InvalidGoal and TooManyTerms, in this order.
    """
    check_single_rules(rules)
    if goal is not None and not is_goal(goal):
        raise InvalidGoal()
    count = len(all_terms(rules, goal))
    if count > MAX_TERMS:
        raise TooManyTerms(count)


def check_single_rules(rules):
    """Return None for a list of at most twelve rules with different names. Raises InvalidRules."""
    if not isinstance(rules, (list, tuple)):
        raise InvalidRules(0)
    if len(rules) > MAX_RULES:
        raise InvalidRules(MAX_RULES)
    names = []
    for at, rule in enumerate(rules):
        if not is_rule(rule) or rule[0] in names:
            raise InvalidRules(at)
        names.append(rule[0])


def all_terms(rules, goal):
    """Return the list of all subterms of rules and of a goal or None, without duplicates."""
    sides = [term for rule in rules for term in rule[1:]]
    if goal is not None:
        sides.extend(goal)
    found = {}
    for side in sides:
        for part in subterms(side):
            found[part] = True
    return list(found)


def vocabulary(rules, goal=None):
    """Return the vocabulary, ascending by texts. Raises the errors of check_rules."""
    check_rules(rules, goal)
    return sorted(all_terms(rules, goal), key=term_text)


def question_terms(rules, goal):
    """Return the vocabulary where a goal is needed. Raises the errors of check_rules, InvalidGoal for None too."""
    check_single_rules(rules)
    if goal is None:
        raise InvalidGoal()
    return vocabulary(rules, goal)


def merged_rules(*lists):
    """Return the rules of all lists in order, equal ones once.

    Raises NameInUse for the first rule with the name, but not the terms, of an earlier one, and then the errors of
    check_rules for the result.
    """
    named = {}
    merged = []
    for rules in lists:
        for rule in rules:
            if not is_rule(rule):
                # The check of the result refuses it.
                merged.append(rule)
            elif rule[0] not in named:
                named[rule[0]] = rule
                merged.append(rule)
            elif named[rule[0]] != rule:
                raise NameInUse(rule[0])
    check_rules(merged)
    return merged
