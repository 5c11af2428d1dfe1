"""Masks: numbers whose binary digits say which indexes are in a set."""


def mask_of(indexes):
    """Return the mask of different indexes."""
    return sum([1 << at for at in indexes])


def indexes_in(mask):
    """Return the ascending list of the indexes in a mask."""
    return [at for at in range(mask.bit_length()) if mask >> at & 1]


def first_in(mask):
    """Return the least index in a mask that is not empty."""
    return (mask & -mask).bit_length() - 1
