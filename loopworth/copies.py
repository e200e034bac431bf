"""Copies of values that share no list and no dict with what they were made of."""


def copied(value):
    """Return an equal value in which all lists and dicts, however deep, are new ones."""
    # Without recursion, for values may lie deeper in one another than calls may.
    nodes = [value]
    spans = []
    while len(spans) < len(nodes):
        begin = len(nodes)
        nodes.extend(_inner(nodes[len(spans)]))
        spans.append((begin, len(nodes)))
    made = list(nodes)
    # What lies within a value stands behind it, so the last ones are made first.
    for at in range(len(nodes) - 1, -1, -1):
        begin, end = spans[at]
        made[at] = _rebuilt(nodes[at], made[begin:end])
    return made[0]


def _inner(value):
    if isinstance(value, dict):
        return list(value.values())
    if isinstance(value, (list, tuple)):
        return list(value)
    return []


def _rebuilt(value, inner):
    if isinstance(value, dict):
        return {key: part for key, part in zip(value, inner)}
    if isinstance(value, list):
        return inner
    if isinstance(value, tuple):
        return tuple(inner)
    return value
