"""Stretches: pairs (low, high) that mean the keys from low to high - 1 (point 12)."""


def clip(first, second):
    """Return the stretch of the common keys of two stretches, or None if there are none."""
    low = max(first[0], second[0])
    high = min(first[1], second[1])
    if low < high:
        return low, high
    return None


def overlap(first, second):
    """Tell whether two stretches have a key in common."""
    return clip(first, second) is not None


def inside(first, second):
    """Tell whether the first stretch is not empty, and all its keys are in the second one."""
    return second[0] <= first[0] < first[1] <= second[1]
