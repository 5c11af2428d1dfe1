"""Documents: the texts of stores."""

from fivefault.commands import NOTHING, after_command
from fivefault.errors import FaultError, InvalidDocument, InvalidText
from fivefault.rules import MAX_RULES
from fivefault.store import MAX_QUESTIONS, Store
from fivefault.syntax import format_rule, parse_rule

RULE_WORD = "rule "
QUESTION_WORD = "question "


def write_store(store):
    """Return the text of a store."""
    # A question is written as a rule is, behind another word.
    lines = [f"{RULE_WORD}{format_rule(rule)}\n" for rule in store.rules()]
    lines.extend([f"{QUESTION_WORD}{format_rule(question)}\n" for question in store.questions()])
    return "".join(lines)


def read_store(text):
    """Return the store of a text. Raises InvalidDocument with the index of the first line that is wrong."""
    *lines, rest = text.split("\n")
    contents = NOTHING
    for at, line in enumerate(lines):
        try:
            contents = after_line(contents, line)
        except FaultError as e:
            raise InvalidDocument(at) from e
    if rest != "":
        raise InvalidDocument(len(lines))
    store = Store()
    store.settle(contents)
    return store


def after_line(contents, line):
    """Return the contents of a store after a line. Raises InvalidText and the errors of commands."""
    rules, questions = contents
    if line.startswith(RULE_WORD) and len(questions) == 0:
        name, left, right = parse_rule(line[len(RULE_WORD):])
        return after_command(contents, ("add", name, left, right), (MAX_RULES, MAX_QUESTIONS))
    if not line.startswith(QUESTION_WORD):
        raise InvalidText()
    name, left, right = parse_rule(line[len(QUESTION_WORD):])
    if len(questions) > 0 and name <= questions[-1][0]:
        raise InvalidText()
    return after_command(contents, ("ask", name, left, right), (MAX_RULES, MAX_QUESTIONS))
