"""Tuples with a part changed."""


def with_item(items, at, item):
    """items with another item at one place."""
    return items[:at] + (item,) + items[at + 1:]


def without(items, left_out):
    """items but those that equal left_out."""
    return tuple([item for item in items if item != left_out])
