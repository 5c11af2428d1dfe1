"""Consoles: lines that are answered by lines."""

from fivefault.commands import names_of
from fivefault.cores import core
from fivefault.errors import FaultError, InvalidText, Missing, NothingLeft
from fivefault.store import Store
from fivefault.syntax import format_rule, parse_rule

WRITTEN = ("add", "put", "ask")
UNKNOWN = "unknown"


def listed(items):
    """Return the text of a list of words."""
    return " ".join(items) if len(items) > 0 else "none"


def say_undo(store):
    """Answer `undo`."""
    store.undo()
    return "ok"


def say_redo(store):
    """Answer `redo`."""
    store.redo()
    return "ok"


def say_rules(store):
    """Answer `rules`."""
    return listed(names_of(store.rules()))


def say_questions(store):
    """Answer `questions`."""
    return listed(names_of(store.questions()))


def say_made(store):
    """Answer `made`."""
    return str(store.made)


def say_drop(store, name):
    """Answer `drop NAME`."""
    store.do(("drop", name))
    return "ok"


def say_forget(store, name):
    """Answer `forget NAME`."""
    store.do(("forget", name))
    return "ok"


def say_show(store, name):
    """Answer `show NAME`."""
    return format_rule(store.rule(name))


def say_kind(store, name):
    """Answer `kind NAME`."""
    return store.answer(name).kind


def say_core(store, name):
    """Answer `core NAME`."""
    found = store.answer(name)
    # A kept answer has the premises of its time, and the core is that of the rules of now.
    names = core(store.rules(), found.goal) if found.kind == "always" else None
    return "no" if names is None else listed(names)


def say_case(store, name):
    """Answer `case NAME`."""
    found = store.answer(name)
    if found.kind != "never":
        return "no"
    case = found.certificate
    return listed([f"{letter}={int(case[letter])}" for letter in sorted(list(case))])


ALONE = {"undo": say_undo, "redo": say_redo, "rules": say_rules, "questions": say_questions, "made": say_made}
NAMED = {"drop": say_drop, "forget": say_forget, "show": say_show, "kind": say_kind, "core": say_core, "case": say_case}


def reply(store, line):
    """Return the answer to a line. Raises InvalidText where a rule is not so written, and the errors of stores."""
    words = line.split(" ")
    word = words[0]
    if "" in words:
        return UNKNOWN
    if len(words) == 1 and word in ALONE:
        action = ALONE[word]
        return action(store)
    if len(words) == 2 and word in NAMED:
        action = NAMED[word]
        return action(store, words[1])
    if word not in WRITTEN:
        return UNKNOWN
    name, left, right = parse_rule(line[len(word) + 1:])
    store.do((word, name, left, right))
    return "ok"


class Console:
    """A console that uses a store."""

    def __init__(self, *, store=None):
        """Use this very store, or a new one."""
        # A store without rules counts as nothing where it is tested, so it is compared with None.
        self.held = Store() if store is None else store
        self.said = []

    @property
    def store(self):
        """The very store."""
        return self.held

    def say(self, line):
        """Return the answer to a line."""
        self.said.append(line)
        try:
            return reply(self.held, line)
        except InvalidText:
            return UNKNOWN
        except (FaultError, Missing, NothingLeft) as e:
            return f"error {e.code}"

    def __call__(self, line):
        return self.say(line)

    def __len__(self):
        return len(self.said)
