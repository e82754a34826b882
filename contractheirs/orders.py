"""The orders of classes, by the names of their bases."""


def is_above_itself(bases, name):
    """Whether the way up from a class leads back to it; bases is a dict from names to tuples of names."""
    seen = {}
    waiting = list(bases[name])
    while waiting:
        above = waiting.pop()
        if above not in seen:
            seen[above] = True
            waiting.extend(bases[above])
    return name in seen


def all_orders(bases):
    """The order of each class, None for one that has none; no class may be above itself."""
    orders = {}
    for name in bases:
        _put_order(bases, name, orders)
    return orders


def _put_order(bases, name, orders):
    """Puts the order of a class, and those of all classes above it, into a dict."""
    if name in orders:
        return
    for base in bases[name]:
        _put_order(bases, base, orders)
    rows = [orders[base] for base in bases[name]]
    behind = None if None in rows else _merged(rows + [list(bases[name])])
    orders[name] = None if behind is None else [name] + behind


def _merged(rows):
    """The rows as one, or None if there is a rest from which none can be taken."""
    merged = []
    rest = [row for row in rows if row]
    while rest:
        taken = _next_of(rest)
        if taken is None:
            return None
        merged.append(taken)
        rest = [[one for one in row if one != taken] for row in rest if row != [taken]]
    return merged


def _next_of(rows):
    """The first one of the first of these rows that stands in no row behind its first place, or None."""
    for row in rows:
        if not any([row[0] in other[1:] for other in rows]):
            return row[0]
    return None
