"""Numbers, pairs and couples told from other values; lists in them become tuples."""


def is_number(value):
    """Whether value is an integer and no truth value."""
    return isinstance(value, int) and not isinstance(value, bool)


def as_pair(value):
    """The pair of numbers that value is; None if it is none."""
    if not isinstance(value, (list, tuple)) or len(value) != 2:
        return None
    if not is_number(value[0]) or not is_number(value[1]):
        return None
    return (value[0], value[1])


def as_pairs(value):
    """The tuple of pairs of numbers that value is; None if it is none."""
    if not isinstance(value, (list, tuple)):
        return None
    pairs = [as_pair(part) for part in value]
    return None if None in pairs else tuple(pairs)


def as_couple(value):
    """The pair of pairs of numbers that value is; None if it is none."""
    pairs = as_pairs(value)
    return None if pairs is None or len(pairs) != 2 else pairs


def as_couples(value):
    """The tuple of pairs of pairs of numbers that value is; None if it is none."""
    if not isinstance(value, (list, tuple)):
        return None
    couples = [as_couple(part) for part in value]
    return None if None in couples else tuple(couples)


def is_ascending(parts):
    """Whether each of parts is below the next one."""
    return all([low < high for low, high in zip(parts, parts[1:])])


def is_same(thing, value):
    """Whether thing is value, made of numbers and tuples: a list is no tuple and a truth value no number."""
    if not isinstance(value, tuple):
        return is_number(thing) and thing == value
    if not isinstance(thing, tuple) or len(thing) != len(value):
        return False
    return all([is_same(part, own) for part, own in zip(thing, value)])
