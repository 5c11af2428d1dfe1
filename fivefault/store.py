"""Stores: rules and questions that are changed by commands, and answers that are kept while they are right."""

from fivefault.answers import answer
from fivefault.commands import NOTHING, after_command, after_commands, names_of
from fivefault.errors import FaultError, InvalidLimit, Missing, NothingLeft, UnknownQuestion, UnknownRule
from fivefault.rules import MAX_RULES

MAX_QUESTIONS = 8


class Store:
    """Rules and questions, the steps that made them, and the answers that are kept."""

    def __init__(self):
        self.contents = NOTHING
        self.past = []
        self.future = []
        self.answers = {}
        self.computed = 0
        self.most = MAX_RULES

    def do(self, command):
        """Do a command as one step. Raises the errors of commands."""
        self.step_to(after_command(self.contents, command, (self.most, MAX_QUESTIONS)))

    def do_all(self, commands):
        """Do several commands as one step. Raises Stopped."""
        self.step_to(after_commands(self.contents, commands, (self.most, MAX_QUESTIONS)))

    def undo(self):
        """Undo the last step. Raises NothingLeft."""
        if len(self.past) == 0:
            raise NothingLeft()
        self.future.append(self.contents)
        self.settle(self.past.pop())

    def redo(self):
        """Redo the step that was undone last. Raises NothingLeft."""
        if len(self.future) == 0:
            raise NothingLeft()
        self.past.append(self.contents)
        self.settle(self.future.pop())

    def history(self):
        """Return the pair of the numbers of steps that can be undone and redone."""
        return (len(self.past), len(self.future))

    def step_to(self, contents):
        """Make a step to other contents."""
        self.past.append(self.contents)
        self.future = []
        self.settle(contents)

    def settle(self, contents):
        """Take other contents, and keep the answers whose certificates are still right."""
        self.contents = contents
        rules, questions = contents
        still = {}
        for name, left, right in questions:
            found = self.answers.get(name)
            if found is not None and found.goal == (left, right) and found.is_right_for(rules, found.goal):
                still[name] = found
        self.answers = still

    def rules(self):
        """Return the list of the rules."""
        return list(self.contents[0])

    def rule(self, name):
        """Return the rule with a name. Raises UnknownRule."""
        for found in self.contents[0]:
            if found[0] == name:
                return found
        raise UnknownRule(name)

    def questions(self):
        """Return the list of the questions, ascending by names."""
        return list(self.contents[1])

    def answer(self, name):
        """Return the answer to a question, which is computed if it is not kept. Raises UnknownQuestion."""
        for question in self.contents[1]:
            if question[0] == name:
                if name not in self.answers:
                    self.answers[name] = answer(self.contents[0], question[1:])
                    self.computed = self.computed + 1
                return self.answers[name]
        raise UnknownQuestion(name)

    def kept(self):
        """Return the ascending list of the names of the questions whose answers are kept."""
        return sorted(list(self.answers))

    @property
    def made(self):
        """How many answers were computed."""
        return self.computed

    @property
    def limit(self):
        """The greatest number of rules for adding one."""
        return self.most

    @limit.setter
    def limit(self, value):
        self.set_limit(value)

    def set_limit(self, limit):
        """Set the greatest number of rules for adding one. Raises InvalidLimit."""
        if limit < 1 or limit > MAX_RULES or limit < len(self.contents[0]):
            raise InvalidLimit(limit)
        self.most = limit

    def trial(self, commands):
        """Return the pairs (name, kind) of all questions as they would be after some commands. Raises Stopped."""
        other = Store()
        self.copy_to(other)
        other.do_all(commands)
        names = names_of(other.questions())
        return [(name, other.answer(name).kind) for name in names]

    def twin(self):
        """Return an independent copy."""
        other = Store()
        self.copy_to(other)
        return other

    def copy_to(self, other):
        """Give another store all that this one has."""
        other.contents = self.contents
        other.past = list(self.past)
        other.future = list(self.future)
        other.answers = dict(self.answers)
        other.computed = self.computed
        other.most = self.most

    def __eq__(self, other):
        return isinstance(other, Store) and self.contents == other.contents

    def __len__(self):
        return len(self.contents[0])

    def __contains__(self, x):
        return x in names_of(self.contents[0])

    def __repr__(self):
        return f"Store({len(self.contents[0])} rules, {len(self.contents[1])} questions)"


class LoggedStore(Store):
    """A store that also notes which commands were done, and how many calls were refused."""

    def __init__(self):
        super().__init__()
        self.noted = []
        self.failures = 0

    def do(self, command):
        """Do a command as one step, and note it. Raises the errors of commands."""
        try:
            super().do(command)
        except (FaultError, Missing):
            self.failures = self.failures + 1
            raise
        self.noted.append(command)

    def do_all(self, commands):
        """Do several commands as one step, and note them. Raises Stopped."""
        try:
            super().do_all(commands)
        except FaultError:
            self.failures = self.failures + 1
            raise
        self.noted.extend(list(commands))

    def done(self):
        """Return the list of all commands that were done."""
        return list(self.noted)

    def refused(self):
        """Return how many calls raised an error."""
        return self.failures

    def twin(self):
        """Return an independent copy, which is a LoggedStore too."""
        other = LoggedStore()
        self.copy_to(other)
        other.noted = list(self.noted)
        other.failures = self.failures
        return other

    def __eq__(self, other):
        return isinstance(other, Store) and self.contents == other.contents

    def __repr__(self):
        return f"Store({len(self.contents[0])} rules, {len(self.contents[1])} questions)"
