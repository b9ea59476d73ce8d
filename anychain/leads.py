"""Leads: how far one of two written words is ahead of the other."""

NO_LEAD = ((), ())


def extended(lead, first, second):
    """Return a lead extended by two words, or None if they differ before the end of both."""
    one = lead[0] + first
    other = lead[1] + second
    same = min(len(one), len(other))
    if one[:same] != other[:same]:
        return None
    return (one[same:], other[same:])
