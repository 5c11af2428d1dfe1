"""Reports: one line for the answer to each question of a store."""


def report(store):
    """Return a line with the name, the kind and the size of the answer to each question, ascending by names."""
    lines = []
    for name, left, right in store.questions():
        found = store.answer(name)
        lines.append(f"{name:<8}{found.kind:<10}{found.size:>6}\n")
    return "".join(lines)
