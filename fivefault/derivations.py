"""Derivations: lists of steps by which a goal follows from rules."""

from fivefault.closure import Closure
from fivefault.errors import InvalidSteps
from fivefault.rules import question_terms
from fivefault.syntax import is_name
from fivefault.terms import LONG_DEPTH, LONG_SIZE, is_term


def derive(rules, goal):
    """Return a derivation in the terms of the vocabulary, or None. Raises the errors of check_rules."""
    closure = Closure(rules, question_terms(rules, goal))
    number = closure.number_of(goal)
    return None if number is None else needed_steps(closure.steps_up_to(number))


def is_derivation(rules, goal, steps):
    """Return whether a value is a derivation for a rule list and a goal. Raises the errors of check_rules."""
    question_terms(rules, goal)
    return are_steps(steps, rules) and steps[-1][:2] == goal


def used_rules(steps):
    """Return the ascending list of the names of the rules in the steps. Raises InvalidSteps."""
    check_steps(steps)
    return sorted({reason[1] for left, right, reason in steps if reason[0] == "rule"})


def trimmed(steps):
    """Return the steps that the last step needs, with the indexes changed to match. Raises InvalidSteps."""
    check_steps(steps)
    return needed_steps(steps)


def chained(one, other):
    """Return steps from the left term of the end of one to the right term of the end of other.

    Raises InvalidSteps if one of the lists is wrong, or if their ends do not meet.
    """
    check_steps(one)
    check_steps(other)
    left, middle, reason = one[-1]
    start, right, reason = other[-1]
    if middle != start:
        raise InvalidSteps()
    moves = {at: at + len(one) for at in range(len(other))}
    moved = [renumbered(step, moves) for step in other]
    return [*one, *moved, (left, right, ("chain", len(one) - 1, len(one) + len(other) - 1))]


def needed_steps(steps):
    """Return what trimmed returns, for steps that are known to be allowed."""
    needed = {len(steps) - 1: True}
    for at in range(len(steps) - 1, -1, -1):
        if at in needed:
            for index in cited(steps[at][2]):
                needed[index] = True
    left_over = sorted(list(needed))
    moves = {left_over[at]: at for at in range(len(left_over))}
    return [renumbered(steps[at], moves) for at in left_over]


def cited(reason):
    """Return the tuple of the indexes in a reason."""
    if reason[0] == "chain":
        return reason[1:]
    return reason[1] if reason[0] in ("into", "out") else ()


def renumbered(step, moves):
    """Return a step with its indexes changed as a dict says."""
    left, right, reason = step
    indexes = [moves[index] for index in cited(reason)]
    if reason[0] == "chain":
        return (left, right, ("chain", *indexes))
    if reason[0] in ("into", "out"):
        return (left, right, (reason[0], tuple(indexes)))
    return step


def check_steps(steps):
    """Return None for a list of steps, whatever the rules are. Raises InvalidSteps."""
    if not are_steps(steps, None):
        raise InvalidSteps()


def are_steps(value, rules):
    """Return whether a value is a list of one or more steps that are allowed.

    Where the rules are None, a step may name any rule.
    """
    if not isinstance(value, (list, tuple)) or len(value) == 0:
        return False
    for at in range(len(value)):
        if not is_allowed(value, at, rules):
            return False
    return True


def is_allowed(steps, at, rules):
    """Return whether the step at an index is allowed, where the ones before it are.

    Terms that are equal to those of earlier steps are long terms, so only the other ones are measured.
    """
    step = steps[at]
    if not isinstance(step, tuple) or len(step) != 3 or not isinstance(step[2], tuple):
        return False
    left, right, reason = step
    if reason == ("same",):
        return left == right and is_long(left)
    if reason == ("part",):
        return is_part_of(right, left, "&") or is_part_of(left, right, "|")
    if len(reason) == 2 and reason[0] == "rule":
        return is_rule_step(left, right, reason[1], rules)
    if len(reason) == 3 and reason[0] == "chain":
        return is_chain(steps, at, reason[1], reason[2])
    if len(reason) == 2 and reason[0] == "into":
        needed = [(left, part) for part in parts_under(right, "&")]
        return are_cited(steps, at, reason[1], needed)
    if len(reason) == 2 and reason[0] == "out":
        needed = [(part, right) for part in parts_under(left, "|")]
        return are_cited(steps, at, reason[1], needed)
    return False


def is_long(value):
    """Return whether a value is a long term."""
    return is_term(value, max_depth=LONG_DEPTH, max_size=LONG_SIZE)


def parts_under(value, sign):
    """Return the tuple of the parts of a long term with this operator; it is empty for any other value."""
    if isinstance(value, tuple) and value[:1] == (sign,) and is_long(value):
        return value[1:]
    return ()


def is_part_of(part, whole, sign):
    """Return whether a value is a part of a long term with this operator."""
    return part in parts_under(whole, sign)


def is_rule_step(left, right, name, rules):
    """Return whether the rules, or any rules if they are None, have a rule of this name and these terms."""
    if rules is None:
        return is_name(name) and is_long(left) and is_long(right)
    return (name, left, right) in rules


def is_chain(steps, at, first, second):
    """Return whether two earlier steps meet and lead from the left to the right term of a step."""
    if not is_index(first, at) or not is_index(second, at):
        return False
    left, right, reason = steps[at]
    return steps[first][1] == steps[second][0] and (steps[first][0], steps[second][1]) == (left, right)


def are_cited(steps, at, indexes, needed):
    """Return whether indexes lead to earlier steps with the needed pairs of terms, of which there are some."""
    if not isinstance(indexes, tuple) or len(needed) == 0 or len(indexes) != len(needed):
        return False
    for index, pair in zip(indexes, needed):
        if not is_index(index, at) or steps[index][:2] != pair:
            return False
    return True


def is_index(value, end):
    """Return whether a value is an integer from 0 on that is less than the end."""
    return isinstance(value, int) and not isinstance(value, bool) and value >= 0 and value < end
