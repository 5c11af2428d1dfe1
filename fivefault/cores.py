"""Cores: the rules that are left when each one without which the goal still holds is left out."""

from fivefault.derivations import derive
from fivefault.tables import table_of


def core(rules, goal):
    """Return the ascending list of the names of the core, or None if the answer is not "always".

    Raises the errors of check_rules.
    """
    found = core_rules(rules, goal)
    return None if found is None else [rule[0] for rule in found]


def core_certificate(rules, goal):
    """Return the names of the core, a derivation that uses only its rules, and a table without each one, or None.

    Raises the errors of check_rules.
    """
    found = core_rules(rules, goal)
    if found is None:
        return None
    tables = [(rule[0], table_of(without(found, rule), goal)) for rule in found]
    return ([rule[0] for rule in found], derive(found, goal), tables)


def core_rules(rules, goal):
    """Return the list of the rules of the core, ascending by names, or None. Raises the errors of check_rules."""
    if derive(rules, goal) is None:
        return None
    found = sorted(rules, key=lambda rule: rule[0])
    for rule in list(found):
        rest = without(found, rule)
        if derive(rest, goal) is not None:
            found = rest
    return found


def without(rules, rule):
    """Return the list of the rules without one of them."""
    return [other for other in rules if other != rule]
