"""The rule of ageing: how many ageings there are, and what a count becomes in them."""


def ageings(span, since, upto):
    return upto // span - since // span


def aged(count, part, times):
    # A part is at least 2, so each ageing takes a binary digit at least:
    # behind as many ageings as there are digits nothing is left to change.
    needed = min(times, count.bit_length())
    for step in range(needed):
        count = count // part
    return count
