"""Answers: always, spreading or never, each one with a certificate that can be checked."""

from fivefault.cases import breaks_goal, case_tree, first_case, is_tree, letters_among
from fivefault.derivations import derive, is_derivation
from fivefault.errors import InvalidCertificate
from fivefault.rules import question_terms
from fivefault.syntax import format_goal
from fivefault.tables import is_table, table_of


def is_right_case(rules, goal, case):
    """Return whether a case with a value for each letter of the vocabulary keeps all rules and breaks the goal.

    Further letters do not count. Raises the errors of check_rules.
    """
    names = letters_among(question_terms(rules, goal))
    return all([name in case for name in names]) and breaks_goal(case, rules, goal)


def is_exact_case(rules, goal, case):
    """Return whether a value is a case for exactly the letters of the vocabulary that keeps all rules, not the goal.

    Raises the errors of check_rules.
    """
    names = letters_among(question_terms(rules, goal))
    if not isinstance(case, dict) or len(case) != len(names):
        return False
    # A number is no truth, although Python takes 1 and True as equal.
    if not all([isinstance(value, bool) for value in case.values()]):
        return False
    return is_right_case(rules, goal, case)


class Answer:
    """The base class of the three answers, which is not constructed itself.

    Each class below has all that is said of answers in its own body, as the language asks for it.
    """

    def __init__(self, rules, goal):
        """Keep what was asked."""
        self.asked = list(rules)
        self.aim = goal

    @property
    def kind(self):
        """The word for the answer."""
        return ""

    @property
    def premises(self):
        """The list of the rules."""
        return list(self.asked)

    @property
    def goal(self):
        """The goal."""
        return self.aim

    @property
    def certificate(self):
        """What shows that the answer is right."""
        return None

    @property
    def size(self):
        """How large the certificate is."""
        return 0

    def is_right_for(self, rules, goal):
        """Return whether the certificate is right for other rules and another goal. Raises as check_rules."""
        question_terms(rules, goal)
        return False

    def __eq__(self, other):
        return isinstance(other, Answer) and self.kind == other.kind and self.asked == other.asked \
            and self.aim == other.aim

    def __str__(self):
        return f"{self.kind}: {format_goal(self.aim)}"


class Always(Answer):
    """The goal holds on every board on which the rules hold; the certificate is a derivation."""

    def __init__(self, rules, goal, steps):
        """Keep a derivation. Raises the errors of check_rules, then InvalidCertificate."""
        if not is_derivation(rules, goal, steps):
            raise InvalidCertificate()
        super().__init__(rules, goal)
        self.steps = list(steps)

    @property
    def kind(self):
        """The word for the answer."""
        return "always"

    @property
    def premises(self):
        """The list of the rules."""
        return list(self.asked)

    @property
    def goal(self):
        """The goal."""
        return self.aim

    @property
    def certificate(self):
        """The list of the steps."""
        return list(self.steps)

    @property
    def size(self):
        """The number of the steps."""
        return len(self.steps)

    def is_right_for(self, rules, goal):
        """Return whether the steps are a derivation for other rules and another goal. Raises as check_rules."""
        return is_derivation(rules, goal, self.steps)

    def __eq__(self, other):
        return isinstance(other, Always) and self.asked == other.asked and self.aim == other.aim \
            and self.steps == other.steps

    def __str__(self):
        return f"always: {format_goal(self.aim)}"


class Spreading(Answer):
    """The goal holds on all boards that spread, but not on all boards; the certificate is a tree and a table."""

    def __init__(self, rules, goal, tree, table):
        """Keep a tree and a table. Raises the errors of check_rules, then InvalidCertificate."""
        if not is_tree(rules, goal, tree) or not is_table(rules, goal, table):
            raise InvalidCertificate()
        super().__init__(rules, goal)
        self.tree = tree
        self.table = list(table)

    @property
    def kind(self):
        """The word for the answer."""
        return "spreading"

    @property
    def premises(self):
        """The list of the rules."""
        return list(self.asked)

    @property
    def goal(self):
        """The goal."""
        return self.aim

    @property
    def certificate(self):
        """The tuple of the tree and the list of the pairs of the table."""
        return (self.tree, list(self.table))

    @property
    def size(self):
        """The number of the pairs of the table."""
        return len(self.table)

    def is_right_for(self, rules, goal):
        """Return whether tree and table are right for other rules and another goal. Raises as check_rules."""
        return is_tree(rules, goal, self.tree) and is_table(rules, goal, self.table)

    def __eq__(self, other):
        return isinstance(other, Spreading) and self.asked == other.asked and self.aim == other.aim \
            and self.tree == other.tree and self.table == other.table

    def __str__(self):
        return f"spreading: {format_goal(self.aim)}"


class Never(Answer):
    """The goal is broken where the rules are kept, already by a case; the certificate is the case."""

    def __init__(self, rules, goal, case):
        """Keep a case. Raises the errors of check_rules, then InvalidCertificate."""
        if not is_exact_case(rules, goal, case):
            raise InvalidCertificate()
        super().__init__(rules, goal)
        self.case = dict(case)

    @property
    def kind(self):
        """The word for the answer."""
        return "never"

    @property
    def premises(self):
        """The list of the rules."""
        return list(self.asked)

    @property
    def goal(self):
        """The goal."""
        return self.aim

    @property
    def certificate(self):
        """The case."""
        return dict(self.case)

    @property
    def size(self):
        """The number of the letters of the case."""
        return len(self.case)

    def is_right_for(self, rules, goal):
        """Return whether the case is right for other rules and another goal. Raises as check_rules."""
        return is_right_case(rules, goal, self.case)

    def __eq__(self, other):
        return isinstance(other, Never) and self.asked == other.asked and self.aim == other.aim \
            and self.case == other.case

    def __str__(self):
        return f"never: {format_goal(self.aim)}"


def answer(rules, goal):
    """Return the answer with a certificate. Raises the errors of check_rules."""
    case = first_case(rules, goal)
    if case is not None:
        return Never(rules, goal, case)
    steps = derive(rules, goal)
    if steps is not None:
        return Always(rules, goal, steps)
    return Spreading(rules, goal, case_tree(rules, goal), table_of(rules, goal))
