"""What several modules ask of whatever is handed in."""


def is_whole(thing):
    """Tell whether a thing is a whole number."""
    # Python counts truths among its ints, the document doesn't.
    return isinstance(thing, int) and not isinstance(thing, bool)


def is_whole_within(thing, low, high):
    """Tell whether a thing is a whole number from low to high."""
    return is_whole(thing) and low <= thing <= high


def is_rising(things):
    """Tell whether each of the things is greater than the one ahead."""
    return all([low < high for low, high in zip(things, things[1:])])


def is_whole_tuple(thing):
    """Tell whether a thing is a tuple of whole numbers alone."""
    return isinstance(thing, tuple) and all([is_whole(part) for part in thing])
