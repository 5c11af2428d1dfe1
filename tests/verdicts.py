"""What the document says of cases, trees and answers, written once more, and questions of all three kinds."""

import functools
import itertools
import random

from tests import questions, samples


def plain_truth(term, case):
    """[12], sentence by sentence."""
    if isinstance(term, str):
        return case[term] if term in case else None
    parts = [plain_truth(part, case) for part in term[1:]]
    if term[0] == "&":
        if any(part is False for part in parts):
            return False
        return True if all(part is True for part in parts) else None
    if any(part is True for part in parts):
        return True
    return False if all(part is False for part in parts) else None


def plain_keeps(case, left, right):
    return plain_truth(left, case) is False or plain_truth(right, case) is True


def plain_breaks(case, left, right):
    return plain_truth(left, case) is True and plain_truth(right, case) is False


def question_letters(rules, goal):
    return [term for term in questions.plain_vocabulary(rules, goal) if isinstance(term, str)]


def plain_cases(rules, goal):
    """All cases, by going through all of them."""
    found = []
    letters = question_letters(rules, goal)
    for values in itertools.product([False, True], repeat=len(letters)):
        case = dict(zip(letters, values))
        if all(plain_keeps(case, *rule[1:]) for rule in rules) and plain_breaks(case, *goal):
            found.append(case)
    return found


def is_plain_tree(rules, goal, tree, case=None):
    """[13], sentence by sentence."""
    case = case or {}
    if type(tree) is not tuple or len(tree) == 0 or type(tree[0]) is not str:
        return False
    if len(tree) == 2 and tree[0] == "rule":
        return any(type(tree[1]) is str and rule[0] == tree[1] and plain_breaks(case, *rule[1:]) for rule in rules)
    if len(tree) == 1 and tree[0] == "goal":
        return plain_keeps(case, *goal)
    if len(tree) == 3 and tree[0] in samples.LETTERS and tree[0] not in case:
        return is_plain_tree(rules, goal, tree[1], {**case, tree[0]: False}) \
            and is_plain_tree(rules, goal, tree[2], {**case, tree[0]: True})
    return False


def is_plain_case(rules, goal, case):
    """The sentence behind Never: a case for exactly the letters that keeps all rules and breaks the goal."""
    if type(case) is not dict or set(case) != set(question_letters(rules, goal)):
        return False
    if any(value is not True and value is not False for value in case.values()):
        return False
    return all(plain_keeps(case, *rule[1:]) for rule in rules) and plain_breaks(case, *goal)


def is_plain_case_for(rules, goal, case):
    """The sentence of is_right_for: only the letters of the vocabulary count."""
    letters = question_letters(rules, goal)
    if any(letter not in case for letter in letters):
        return False
    return is_plain_case(rules, goal, {letter: case[letter] for letter in letters})


@functools.lru_cache(maxsize=None)
def reckoned_kind(rules, goal):
    if goal in questions.plain_under(rules, questions.plain_vocabulary(rules, goal)):
        return "always"
    return "never" if plain_cases(rules, goal) else "spreading"


def plain_kind(rules, goal):
    """[9], by what can be derived and by all cases."""
    return reckoned_kind(tuple(rules), goal)


def turned(term):
    if isinstance(term, str):
        return term
    return ("|" if term[0] == "&" else "&", *[turned(part) for part in term[1:]])


def turned_question(rules, goal):
    """All terms turned, and the sides exchanged."""
    return [(name, turned(right), turned(left)) for name, left, right in rules], (turned(goal[1]), turned(goal[0]))


def with_letters(value, letters):
    """A term or a tuple of terms with other letters, or with terms instead of letters."""
    if isinstance(value, str):
        return letters.get(value, value)
    return tuple(with_letters(part, letters) for part in value)


def renamed_rules(rules, letters):
    return [(rule[0], *with_letters(rule[1:], letters)) for rule in rules]


A_AND_B, A_AND_C, B_AND_C = ("&", "a", "b"), ("&", "a", "c"), ("&", "b", "c")
A_OR_B, A_OR_C, B_OR_C = ("|", "a", "b"), ("|", "a", "c"), ("|", "b", "c")
PATTERNS = [
    ([], (("&", "a", B_OR_C), ("|", A_AND_B, A_AND_C))),
    ([], (("&", A_OR_B, A_OR_C, B_OR_C), ("|", A_AND_B, A_AND_C, B_AND_C))),
    ([("one", "a", "c")], (("&", A_OR_B, "c"), ("|", "a", B_AND_C))),
    ([("p", A_AND_B, "d"), ("q", A_AND_C, "d")], (("&", "a", B_OR_C), "d")),
    ([("p", A_AND_B, "c"), ("q", "a", ("|", "b", "c"))], ("a", "c")),
    ([("p", ("&", "a", "b"), "c"), ("q", "a", ("|", "b", "d")), ("r", ("&", "a", "d"), "c")], ("a", "c")),
    ([("x", "a", B_OR_C)], ("a", ("|", A_AND_B, A_AND_C))),
    ([("x", "a", ("|", "b", "c", "d"))], ("a", ("|", A_AND_B, A_AND_C, ("&", "a", "d")))),
]


def spreading_questions():
    """Questions with the answer "spreading", with other letters, turned, and with rules beside them."""
    source = random.Random(130)
    found = []
    for rules, goal in PATTERNS:
        for way in range(8):
            letters = dict(zip(samples.LETTERS, source.sample(samples.LETTERS, 8)))
            if way % 4 == 3:
                letters[source.choice("abc")] = (source.choice("&|"), *source.sample(samples.LETTERS, 2))
            asked = (renamed_rules(rules, letters), with_letters(goal, letters))
            if way % 2:
                asked = turned_question(*asked)
            more = [(name, source.choice(samples.LETTERS), source.choice(samples.LETTERS)) for name in "tuvw"[:way // 2]]
            asked = (asked[0] + more, asked[1])
            source.shuffle(asked[0])
            if len(questions.plain_vocabulary(*asked)) <= 24 and plain_kind(*asked) == "spreading":
                found.append(asked)
    assert len(found) > 40
    return found


def all_questions():
    """Questions of all three kinds."""
    return questions.all_questions() + spreading_questions()


def changed_rules(source, rules, goal):
    """Rule lists that differ from this one: put in, dropped, changed, in another order; within all bounds."""
    pool = questions.plain_vocabulary(rules, goal) + ["a", "h", ("&", "a", "b"), ("|", "g", "h")]
    extra = ("extra", source.choice(pool), source.choice(pool))
    found = [[*rules, extra], [extra, *rules], rules[1:], rules[:-1], rules[::-1], []]
    for at in range(len(rules)):
        name, left, right = rules[at]
        others = [(name, right, left), (name, left, source.choice(pool)), (name, source.choice(pool), right),
                  ("other", left, right)]
        found += [[*rules[:at], source.choice(others), *rules[at + 1:]], rules[:at] + rules[at + 1:]]
    return [asked for asked in found if is_asked(asked, goal)]


def is_asked(rules, goal):
    """Whether a rule list and a goal are within all bounds."""
    names = [rule[0] for rule in rules]
    return len(rules) <= 12 and len(set(names)) == len(names) and len(questions.plain_vocabulary(rules, goal)) <= 24
