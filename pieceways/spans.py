"""Spans of byte numbers, and covers: rising lists of spans that neither touch nor overlap."""


def with_span(cover, span):
    low = span[0]
    high = span[1]
    ahead = []
    behind = []
    for one in cover:
        if one[1] < low:
            ahead.append(one)
        elif one[0] > high:
            behind.append(one)
        else:
            # It touches or overlaps. No other one of the cover touches it, so the grown span reaches none anew.
            low = min(low, one[0])
            high = max(high, one[1])
    return ahead + [(low, high)] + behind


def lacking(cover, end):
    told = []
    reached = 0
    for low, high in cover:
        if end is not None and low >= end:
            break
        if low > reached:
            told.append((reached, low))
        reached = high
    if end is None:
        told.append((reached, None))
    elif reached < end:
        told.append((reached, end))
    return told


def size_of(cover):
    return sum([high - low for low, high in cover])
