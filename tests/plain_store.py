"""A store as the document describes it, written once more, and commands for the tests."""

from tests import questions, samples, verdicts


class Refused(Exception):
    """An error of a command: its code and its fields."""

    def __init__(self, code, **fields):
        super().__init__(code)
        self.code, self.fields = code, {"code": code, **fields}


def plain_count(rules, goal=None):
    return len(questions.plain_vocabulary(rules, goal))


def check_room(rules, asked):
    """[20]: the rules alone, or else the first question in ascending order of names."""
    if plain_count(rules) > 24:
        raise Refused("TooManyTerms", count=plain_count(rules))
    for name in sorted(asked):
        if plain_count(rules, asked[name]) > 24:
            raise Refused("TooManyTerms", count=plain_count(rules, asked[name]))


def plain_apply(rules, asked, command, limit):
    """[20]: the rules, a list, and the questions, a dict, after a command."""
    sizes = {"add": 4, "put": 4, "drop": 2, "ask": 4, "forget": 2}
    if not command:
        raise Refused("InvalidCommand", word=None)
    word = command[0]
    if word not in sizes or sizes[word] != len(command):
        raise Refused("InvalidCommand", word=word)
    rules, asked, name = list(rules), dict(asked), command[1]
    names = [rule[0] for rule in rules]
    if word in ("add", "ask"):
        if not questions.is_plain_name(name):
            raise Refused("InvalidName", name=name)
        if name in (names if word == "add" else asked):
            raise Refused("NameInUse", name=name)
    if word in ("put", "drop") and name not in names:
        raise Refused("UnknownRule", name=name)
    if word == "forget" and name not in asked:
        raise Refused("UnknownQuestion", name=name)
    if len(command) == 4 and not all(questions.is_plain_term(term) for term in command[2:]):
        raise Refused("InvalidTerm")
    if word == "add" and len(rules) >= limit:
        raise Refused("CapacityReached", limit=limit)
    if word == "ask" and len(asked) >= 8:
        raise Refused("CapacityReached", limit=8)
    if word == "add":
        rules.append(command[1:])
    elif word == "put":
        rules[names.index(name)] = command[1:]
    elif word == "drop":
        del rules[names.index(name)]
    elif word == "ask":
        asked[name] = command[2:]
    else:
        del asked[name]
    check_room(rules, asked)
    return rules, asked


def still_right(found, rules, goal):
    """The sentence of is_right_for, for an answer."""
    if found.kind == "always":
        return questions.is_plain_derivation(rules, goal, found.certificate)
    if found.kind == "never":
        return verdicts.is_plain_case_for(rules, goal, found.certificate)
    tree, table = found.certificate
    return verdicts.is_plain_tree(rules, goal, tree) and questions.is_plain_table(rules, goal, table)


class PlainStore:
    """[20] to [22]."""

    def __init__(self):
        self.rules, self.asked = [], {}
        self.past, self.future = [], []
        self.held, self.made, self.limit = {}, 0, 12
        self.done, self.refused = [], 0

    def twin(self):
        other = PlainStore()
        other.rules, other.asked = list(self.rules), dict(self.asked)
        other.past, other.future = list(self.past), list(self.future)
        other.held, other.made, other.limit = dict(self.held), self.made, self.limit
        other.done, other.refused = list(self.done), self.refused
        return other

    def do(self, command):
        try:
            state = plain_apply(self.rules, self.asked, command, self.limit)
        except Refused:
            self.refused += 1
            raise
        self.step(state)
        self.done.append(command)

    def do_all(self, commands):
        state = (self.rules, self.asked)
        for at, command in enumerate(commands):
            try:
                state = plain_apply(*state, command, self.limit)
            except Refused as error:
                self.refused += 1
                raise Refused("Stopped", index=at, cause=error.code)
        self.step(state)
        self.done += commands

    def step(self, state):
        self.past.append((self.rules, self.asked))
        self.future = []
        self.settle(state)

    def undo(self):
        if not self.past:
            raise Refused("NothingLeft")
        self.future.append((self.rules, self.asked))
        self.settle(self.past.pop())

    def redo(self):
        if not self.future:
            raise Refused("NothingLeft")
        self.past.append((self.rules, self.asked))
        self.settle(self.future.pop())

    def settle(self, state):
        """[22]: an answer stays kept if the question has the same goal and if its certificate is still right."""
        self.rules, self.asked = list(state[0]), dict(state[1])
        self.held = {name: found for name, found in self.held.items()
                     if self.asked.get(name) == found.goal and still_right(found, self.rules, found.goal)}

    def answered(self, name, found):
        """Note that the store was asked for an answer and returned this one."""
        if name not in self.held:
            self.held[name] = found
            self.made += 1

    def set_limit(self, limit):
        if not 1 <= limit <= 12 or limit < len(self.rules):
            raise Refused("InvalidLimit", limit=limit)
        self.limit = limit


NAMES = ["a", "b", "c", "one", "two", "ab", "abcdef", "z"]
WRONG_NAMES = ["", "A", "abcdefg", "a b", "a1", "one ", "a\n", "a:", "-", "One", "rule", "x" * 40]
WRONG_COMMANDS = [(), ("",), ("add",), ("add", "a"), ("add", "a", "b"), ("add", "a", "b", "c", "d"), ("drop",),
                  ("drop", "a", "b"), ("forget",), ("forget", "a", "b", "c"), ("put", "a"), ("ask", "a", "b"),
                  ("undo",), ("rules",), ("Add", "a", "b", "c"), ("remove", "a"), ("add ", "a", "b", "c"), ("a", "b"),
                  ("", "a", "b", "c"), ("put", "a", "b"), ("ask",)]
SMALL = ["a", "b", "c", "d", ("&", "a", "b"), ("|", "a", "b"), ("&", "a", ("|", "b", "c")), ("|", "c", "d"),
         ("|", ("&", "a", "b"), ("&", "a", "c")), ("|", "b", "c"), ("&", "c", "d", "a")]
WIDE = [("&", "e", "f"), ("|", "g", "h"), ("&", ("|", "e", "f"), "g"), ("|", ("&", "f", "g"), ("&", "g", "h")),
        ("&", ("|", "a", "h"), ("|", "b", "g"), ("|", "c", "f")), samples.tower(5), samples.bushy(5, 24),
        ("|", ("&", "a", "e"), ("&", "b", "e"), ("&", "c", "e"), ("&", "d", "e"))]
WRONG_TERMS = ["i", "", None, 5, True, (), ("&", "a"), ["&", "a", "b"], samples.tower(6), samples.row(25), ("a", "b")]


def random_term(source):
    way = source.random()
    if way < 0.04:
        return source.choice(WRONG_TERMS)
    return source.choice(SMALL if way < 0.8 else WIDE)


def random_command(source, model):
    """A command that often fits the store, and sometimes fails in each of the ways."""
    way = source.random()
    if way < 0.04:
        return source.choice(WRONG_COMMANDS)
    name = source.choice(NAMES if source.random() < 0.95 else WRONG_NAMES)
    known = [rule[0] for rule in model.rules]
    if way < 0.34:
        return ("add", name, random_term(source), random_term(source))
    if way < 0.5:
        return ("put", source.choice(known or NAMES) if source.random() < 0.9 else name, random_term(source),
                random_term(source))
    if way < 0.62:
        return ("drop", source.choice(known or NAMES) if source.random() < 0.8 else name)
    if way < 0.9:
        return ("ask", name, random_term(source), random_term(source))
    return ("forget", source.choice(sorted(model.asked) or NAMES) if source.random() < 0.8 else name)


def random_commands(source, model):
    """A list of commands in which each one knows what the ones before it did."""
    other, found = model.twin(), []
    for _ in range(source.choice([0, 1, 2, 2, 3, 4])):
        command = random_command(source, other)
        found.append(command)
        try:
            other.do(command)
        except Refused:
            if source.random() < 0.7:
                found.pop()
    return found
