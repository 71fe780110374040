"""Nets that sort by comparing, put together of mergers."""

from switchrows.joining import behind, beside, interleaved


def merger(m):
    """The merger of m, whose two halves rise already."""
    if m == 1:
        return (2, (((0, 1),),))
    many, stages = interleaved(merger(m - 1))
    last = tuple((a, a + 1) for a in range(1, many - 1, 2))
    return (many, stages + (last,))


def sorter(m):
    """The sorter of m."""
    if m == 1:
        return merger(1)
    half = sorter(m - 1)
    return behind(beside(half, half), merger(m))
