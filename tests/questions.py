"""Rule lists and goals for the tests, and what the document says of them, written once more and independently."""

import itertools
import random

from tests import samples

EDGE_INDEXES = [-1, -2, 0, 1, 2, 3, 5, 10 ** 29, -10 ** 29, True, False, None, "0", "", (), (0,), [0]]


def plain_vocabulary(rules, goal=None):
    """[5]: all subterms, without duplicates, in ascending order of their texts."""
    sides = [side for rule in rules for side in rule[1:]] + list(goal or ())
    found = {part for side in sides for part in samples.plain_walk(side)}
    return sorted(found, key=samples.plain_text)


def is_plain_term(value):
    return samples.has_form(value) and samples.plain_depth(value) <= 5 and samples.plain_size(value) <= 24


def is_plain_long_term(value):
    return samples.has_form(value) and samples.plain_depth(value) <= 9 and samples.plain_size(value) <= 600


def is_plain_integer(value):
    return type(value) is int


def plain_under(rules, terms):
    """[15]: the set of all pairs that can be derived with these terms alone, by going through all again and again."""
    pairs = {(term, term) for term in terms} | {rule[1:] for rule in rules}
    for term in terms:
        for part in term[1:] if isinstance(term, tuple) else ():
            pairs.add((term, part) if term[0] == "&" else (part, term))
    while True:
        more = {(s, u) for s, t in pairs for v, u in pairs if t == v}
        for s, t in itertools.product(terms, repeat=2):
            if t[0] == "&" and all((s, part) in pairs for part in t[1:]):
                more.add((s, t))
            if s[0] == "|" and all((part, t) in pairs for part in s[1:]):
                more.add((s, t))
        if more <= pairs:
            return pairs
        pairs |= more


def plain_reason_holds(steps, at, allows_rule):
    """[10]: whether the reason of a step is one of those that are listed."""
    left, right, reason = steps[at]

    def step_is(index, one, other):
        return is_plain_integer(index) and 0 <= index < at and steps[index][0] == one and steps[index][1] == other

    def is_index(index):
        return is_plain_integer(index) and 0 <= index < at

    if type(reason) is not tuple or not reason or type(reason[0]) is not str:
        return False
    word, rest = reason[0], reason[1:]
    if word == "rule" and len(rest) == 1:
        return allows_rule(rest[0], left, right)
    if word == "same" and len(rest) == 0:
        return left == right
    if word == "part" and len(rest) == 0:
        return (left[0] == "&" and right in left[1:]) or (right[0] == "|" and left in right[1:])
    if word == "chain" and len(rest) == 2:
        return is_index(rest[0]) and step_is(rest[0], left, steps[rest[0]][1]) \
            and step_is(rest[1], steps[rest[0]][1], right)
    if word == "into" and len(rest) == 1 and type(rest[0]) is tuple:
        return right[0] == "&" and len(rest[0]) == len(right) - 1 \
            and all(step_is(index, left, part) for index, part in zip(rest[0], right[1:]))
    if word == "out" and len(rest) == 1 and type(rest[0]) is tuple:
        return left[0] == "|" and len(rest[0]) == len(left) - 1 \
            and all(step_is(index, part, right) for index, part in zip(rest[0], left[1:]))
    return False


def are_plain_steps(steps, allows_rule):
    """[10]: whether a value is a list of one or more steps that are allowed."""
    if type(steps) not in (list, tuple) or len(steps) == 0:
        return False
    for at, step in enumerate(steps):
        if type(step) is not tuple or len(step) != 3:
            return False
        if not is_plain_long_term(step[0]) or not is_plain_long_term(step[1]):
            return False
        if not plain_reason_holds(steps, at, allows_rule):
            return False
    return True


def is_plain_derivation(rules, goal, steps):
    """[10]: whether a value is a derivation."""
    def allows_rule(name, left, right):
        return (name, left, right) in [tuple(rule) for rule in rules]

    return are_plain_steps(steps, allows_rule) and (steps[-1][0], steps[-1][1]) == tuple(goal)


def is_plain_name(value):
    return type(value) is str and 1 <= len(value) <= 6 and all("a" <= letter <= "z" for letter in value)


def are_plain_free_steps(steps):
    """Whether a value is what used_rules, trimmed and chained take."""
    return are_plain_steps(steps, lambda name, left, right: is_plain_name(name))


def is_plain_table(rules, goal, table):
    """[11]: whether a value is a table, sentence by sentence."""
    if type(table) not in (list, tuple):
        return False
    for pair in table:
        if type(pair) is not tuple or len(pair) != 2 or not all(is_plain_term(side) for side in pair):
            return False
    pairs = set(table)
    if len(pairs) != len(table):
        return False
    terms = {side for pair in table for side in pair}
    if len(terms) > 24:
        return False
    needed = [*[side for rule in rules for side in rule[1:]], *goal, *terms]
    if any(part not in terms for side in needed for part in samples.plain_walk(side)):
        return False
    if any((t, t) not in pairs for t in terms) or any(rule[1:] not in pairs for rule in rules):
        return False
    if any((s, u) not in pairs for s, t in pairs for v, u in pairs if t == v):
        return False
    for t in terms:
        if t[0] == "&":
            if any((t, p) not in pairs for p in t[1:]):
                return False
            if any((s, t) not in pairs and all((s, p) in pairs for p in t[1:]) for s in terms):
                return False
        if t[0] == "|":
            if any((p, t) not in pairs for p in t[1:]):
                return False
            if any((t, s) not in pairs and all((p, s) in pairs for p in t[1:]) for s in terms):
                return False
    return tuple(goal) not in pairs


def random_pool(source, many, letters):
    """Terms of which all subterms are among them, at most so many."""
    pool = list(letters)[:many]
    tries = 0
    while len(pool) < many and tries < 200:
        tries += 1
        parts = [source.choice(pool) for _ in range(source.choice([2, 2, 2, 3, 4]))]
        term = (source.choice("&|"), *parts)
        if term not in pool and is_plain_term(term):
            pool.append(term)
    return pool


def names(many):
    """Different names of each length."""
    return [("r" + "abcdefghijkl"[at] * (at % 6))[:6] if at % 6 else "abcdefghijkl"[at] for at in range(many)]


def random_question(source, many=None, rules=None, letters=None):
    """A rule list and a goal whose vocabulary is within its bound."""
    many = many or source.choice([2, 3, 4, 5, 6, 8, 10, 14, 18, 24])
    rules = source.randint(0, 12) if rules is None else rules
    letters = letters or "abcdefgh"[:source.randint(1, min(8, many))]
    pool = random_pool(source, many, letters)
    found = [(name, source.choice(pool), source.choice(pool)) for name in names(rules)]
    source.shuffle(found)
    return found, (source.choice(pool), source.choice(pool))


def random_questions(count, seed, **more):
    source = random.Random(seed)
    return [random_question(source, **more) for _ in range(count)]


def chain_question(length):
    """Rules that form a chain of the letters, in the wrong order, and a goal that needs all of them."""
    letters = "abcdefgh"[:length + 1]
    found = [(names(12)[at], letters[at], letters[at + 1]) for at in range(length)]
    return found[::-1], (letters[0], letters[length])


def full_question():
    """Twelve rules and a goal with a vocabulary of 24 terms; the goal needs all rules."""
    letters = samples.LETTERS
    ands = [("&", letters[at], letters[at + 1]) for at in range(7)]
    ors = [("|", letters[at], letters[at + 1]) for at in range(7)]
    chain = [("|", ors[6], ors[5]), *ands[:6], *ors[:5], ("&", ands[6], "a")]
    rules = [(name, chain[at], chain[at + 1]) for at, name in enumerate(names(12))]
    goal = (ors[5], "h")
    assert len(plain_vocabulary(rules, goal)) == 24
    return rules[::-1], goal


PENTAGON = ([], (("&", "a", ("|", "b", "c")), ("|", ("&", "a", "b"), ("&", "a", "c"))))
FIXED = [
    ([], ("a", "a")), ([], ("a", "b")), ([], (("&", "a", "b"), ("&", "b", "a"))), PENTAGON,
    ([], PENTAGON[1][::-1]),
    ([], (("&", "a", ("|", "a", "b")), "a")), ([], ("a", ("&", "a", ("|", "a", "b")))),
    ([], (("&", "a", "a"), ("|", "a", "a"))), ([], (("|", "a", "a"), ("&", "a", "a", "a"))),
    ([("one", "a", "b")], ("a", ("|", "b", "c"))), ([("one", "a", "b")], ("b", "a")),
    ([("one", "a", "b"), ("two", "b", "a")], (("|", "a", "b"), ("&", "a", "b"))),
    ([("one", ("|", "a", "b"), ("&", "a", "b"))], ("a", "b")),
    ([("one", ("&", "a", "b"), "c"), ("two", ("&", "a", "c"), "b")], (("&", "a", "b"), ("&", "a", "c"))),
    ([("a", ("|", "a", "b"), "c"), ("b", "c", "d")], (("|", "a", "b"), ("|", "d", "e"))),
    ([("m", "a", "c")], (("&", ("|", "a", "b"), "c"), ("|", "a", ("&", "b", "c")))),
    ([("x", "a", "a")], ("a", "a")), ([("x", "a", "a")], ("b", "a")),
]


def all_questions():
    """Questions of many kinds."""
    found = FIXED + [chain_question(length) for length in range(1, 8)] + [full_question()]
    found += random_questions(140, seed=20)
    found += random_questions(40, seed=21, letters="abc")
    found += random_questions(15, seed=22, many=24, rules=12)
    found += random_questions(25, seed=23, rules=0)
    return found


def swapped(source, value):
    """A nested value in which one item of some tuple or list is another one, is gone, or is there twice."""
    if not isinstance(value, (tuple, list)) or not value or source.random() < 0.1:
        return source.choice([*EDGE_INDEXES, "a", "b", "rule", "same", "part", "chain", "into", "out", "goal", "one",
                              ("a", "b"), ("&", "a", "b"), ("|", "a", "b"), ("same",), ("part",), ["a"], "&", "|"])
    items = list(value)
    at = source.randrange(len(items))
    way = source.random()
    if way < 0.7:
        items[at] = swapped(source, items[at])
    elif way < 0.78:
        del items[at]
    elif way < 0.86:
        items.insert(at, items[source.randrange(len(items))])
    elif way < 0.94:
        other = source.randrange(len(items))
        items[at], items[other] = items[other], items[at]
    else:
        return list(items) if isinstance(value, tuple) else tuple(items)
    return tuple(items) if isinstance(value, tuple) else items


def nested_values(count, seed):
    """Nested tuples and lists, at most 12 deep, among them some that look like certificates."""
    source = random.Random(seed)
    found = samples.random_values(count, seed=seed)
    found += [[value] for value in samples.random_values(count, seed=seed + 1) if plain_nesting(value) < 12]
    words = ["rule", "same", "part", "chain", "into", "out", "goal", "ladder", "fan", "a", "b", "one", 0, 1, True, None]
    for _ in range(count):
        rows = []
        for _ in range(source.randint(0, 3)):
            reason = tuple(source.choice(words) for _ in range(source.randint(0, 3)))
            rows.append(tuple([source.choice(words), source.choice(words), source.choice([reason, list(reason), None])]))
        found.append(source.choice([list, tuple])(rows))
    return found


def plain_nesting(value):
    if not isinstance(value, (tuple, list)):
        return 0
    return 1 + max([plain_nesting(item) for item in value], default=0)


WRONG_RULES = [None, True, 0, "", "one", "one: a < b", (), ("one",), ("one", "a"), ("a", "b"), ("one", "a", "b", "c"),
               ["one", "a", "b"], ("One", "a", "b"), ("", "a", "b"), ("abcdefg", "a", "b"), ("a b", "a", "b"),
               (1, "a", "b"), (None, "a", "b"), (["one"], "a", "b"), (("one",), "a", "b"), ("one", ("a", "b")),
               ("one", "a", "i"), ("one", None, "a"), ("one", "a", ["&", "a", "b"]), ("one", ("&", "a"), "b"),
               ("one", samples.tower(6), "a"), ("one", "a", samples.row(25)), ("one", "a", ()), ("one\n", "a", "b")]
WRONG_GOALS = [True, False, 0, 5, "", "a", "ab", "a < b", (), ("a",), ("a", "b", "c"), ["a", "b"], ("a", None),
               (None, "a"), ("a", "i"), ("", "a"), (("&", "a"), "b"), ("a", ["&", "a", "b"]), (("a", "b"),),
               (samples.tower(6), "a"), ("a", samples.row(25)), ("one", "a", "b"), [], [None]]


def rules_with(count):
    """A rule list whose vocabulary has this number of terms, from 12 to 32."""
    first = [("&", "a", "b"), ("&", "c", "d"), ("&", "e", "f"), ("&", "g", "h")]
    flat = first + [("|", *pair) for pair in itertools.combinations(samples.LETTERS, 2)]
    flat = flat[:count - 8]
    pairs = list(zip(flat[::2], flat[1::2])) + [(flat[-1], flat[0])] * (count % 2)
    rules = [(name, *pair) for name, pair in zip(names(12), pairs)]
    assert len(plain_vocabulary(rules)) == count
    return rules
