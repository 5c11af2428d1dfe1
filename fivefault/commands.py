"""Commands: what a store has before and after them.

The contents of a store are a pair of tuples: its rules in their order, and its questions (name, left, right) in
ascending order of names. They are never changed, so steps can keep them as they are. The limits are the pair of the
greatest numbers of rules and of questions.
"""

from fivefault.errors import (
    CapacityReached, FaultError, InvalidCommand, InvalidName, Missing, NameInUse, Stopped, UnknownQuestion, UnknownRule,
)
from fivefault.rules import check_rules
from fivefault.syntax import is_name
from fivefault.terms import checked_term

NOTHING = ((), ())


def names_of(rows):
    """Return the list of the names of rules or questions."""
    return [row[0] for row in rows]


def check_new(name, rows, left, right):
    """Return None if a name and two terms can be added to rows. Raises InvalidName, NameInUse and InvalidTerm."""
    if not is_name(name):
        raise InvalidName(name)
    if name in names_of(rows):
        raise NameInUse(name)
    checked_term(left)
    checked_term(right)


def checked_contents(rules, questions):
    """Return the contents of a store. Raises TooManyTerms."""
    check_rules(rules)
    for name, left, right in questions:
        check_rules(rules, (left, right))
    return (rules, questions)


def after_add(contents, command, limits):
    """Return the contents with a rule at the end."""
    rules, questions = contents
    word, name, left, right = command
    check_new(name, rules, left, right)
    if len(rules) >= limits[0]:
        raise CapacityReached(limits[0])
    return checked_contents((*rules, (name, left, right)), questions)


def after_put(contents, command, limits):
    """Return the contents with other terms in a rule."""
    rules, questions = contents
    word, name, left, right = command
    if name not in names_of(rules):
        raise UnknownRule(name)
    checked_term(left)
    checked_term(right)
    changed = [(name, left, right) if rule[0] == name else rule for rule in rules]
    return checked_contents(tuple(changed), questions)


def after_drop(contents, command, limits):
    """Return the contents without a rule."""
    rules, questions = contents
    if command[1] not in names_of(rules):
        raise UnknownRule(command[1])
    return (tuple([rule for rule in rules if rule[0] != command[1]]), questions)


def after_ask(contents, command, limits):
    """Return the contents with another question."""
    rules, questions = contents
    word, name, left, right = command
    check_new(name, questions, left, right)
    if len(questions) >= limits[1]:
        raise CapacityReached(limits[1])
    rows = sorted([*questions, (name, left, right)], key=lambda row: row[0])
    return checked_contents(rules, tuple(rows))


def after_forget(contents, command, limits):
    """Return the contents without a question."""
    rules, questions = contents
    if command[1] not in names_of(questions):
        raise UnknownQuestion(command[1])
    return (rules, tuple([row for row in questions if row[0] != command[1]]))


LENGTHS = {"add": 4, "put": 4, "drop": 2, "ask": 4, "forget": 2}
ACTIONS = {"add": after_add, "put": after_put, "drop": after_drop, "ask": after_ask, "forget": after_forget}


def after_command(contents, command, limits):
    """Return the contents after a command within the limits. Raises the errors of commands."""
    if len(command) == 0:
        raise InvalidCommand(None)
    if LENGTHS.get(command[0]) != len(command):
        raise InvalidCommand(command[0])
    action = ACTIONS[command[0]]
    return action(contents, command, limits)


def after_commands(contents, commands, limits):
    """Return the contents after all commands of a list. Raises Stopped for the first one that fails."""
    for at, command in enumerate(commands):
        try:
            contents = after_command(contents, command, limits)
        except (FaultError, Missing) as e:
            raise Stopped(at, e.code) from e
    return contents
