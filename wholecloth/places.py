"""Places: what a clerk knows of the groups of the keys (points 29 and 30)."""


def group_of(places, key):
    """Return the group of a key, that of the last place that contains it."""
    found = None
    for low, high, group in places:
        if low <= key < high:
            found = group
    return found


def parts_of_span(places, span):
    """Return the list of the parts (low, high, group) of a span; neighbours belong to different groups."""
    low, high = span
    borders = sorted({border for place in places for border in place[:2] if low < border < high})
    parts = []
    for first, behind in zip([low] + borders, borders + [high]):
        group = group_of(places, first)
        if parts and parts[-1][2] == group:
            first, _, _ = parts.pop()
        parts.append((first, behind, group))
    return parts


def parts_of(places, spans):
    """Return the list of the parts of spans, each one once."""
    found = []
    for span in spans:
        for part in parts_of_span(places, span):
            if part not in found:
                found.append(part)
    return found
