"""What is asked of plain values again and again: numbers, lists, names."""

ALPHABET = "abcdefghijklmnopqrstuvwxyz"
NO_NAMES = ("out", "start", "other")


def is_number(thing):
    """Tell whether any value is an int that is not a bool."""
    return isinstance(thing, int) and not isinstance(thing, bool)


def is_within(thing, low, high):
    """Tell whether any value is a number from low to high."""
    return isinstance(thing, int) and not isinstance(thing, bool) and low <= thing <= high


def is_list(thing):
    """Tell whether any value is a list, or a tuple, which stands for one."""
    return isinstance(thing, (list, tuple))


def is_tuple_of(thing, many):
    """Tell whether any value is a tuple of so many items."""
    return isinstance(thing, tuple) and len(thing) == many


def is_name(thing):
    """Tell whether any value is a name."""
    if not isinstance(thing, str) or not 1 <= len(thing) <= 6:
        return False
    return thing not in NO_NAMES and all([letter in ALPHABET for letter in thing])


def are_different(words):
    """Tell whether no string stands in a list twice."""
    return len(set(words)) == len(words)


def is_ascending(items):
    """Tell whether each item (all are numbers, or all are strings) is less than the next one."""
    return all([one < other for one, other in zip(items, items[1:])])
