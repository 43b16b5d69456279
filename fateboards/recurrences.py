"""Recurrences: the far terms of sequences in which each term is a sum of multiples of some terms before it.

Only what numbers leave when they are divided by PRIME is looked at. A recurrence is the list of what
the last term, the one before it and so on are taken times.
"""

from fateboards.inverses import inverse

PRIME = 2305843009213693951


def far_term(terms, index):
    """The term at an index, from the first terms: at least twice as many as a recurrence of theirs is long."""
    if index < len(terms):
        return terms[index] % PRIME
    recurrence = shortest_recurrence(terms)
    shares = _shares(recurrence, index)
    return sum([share * term for share, term in zip(shares, terms)]) % PRIME


def shortest_recurrence(terms):
    """The shortest recurrence of some terms (as Berlekamp and Massey find it)."""
    now = []
    # The recurrence that failed last before the length grew, at which term, and by how much.
    failed, place, gap = [], -1, 1
    for index, term in enumerate(terms):
        missing = (term - sum([share * terms[index - 1 - back] for back, share in enumerate(now)])) % PRIME
        if missing != 0:
            often = missing * inverse(gap, PRIME) % PRIME
            mend = [0] * (index - place - 1) + [often] + [-often * share for share in failed]
            later = _sum_of(now, mend)
            if len(later) > len(now):
                failed, place, gap = now, index, missing
            now = later
    return now


def _sum_of(one, other):
    """The sums of the numbers of two lists, the shorter of which goes on with zeros."""
    many = max(len(one), len(other))
    one = one + [0] * (many - len(one))
    other = other + [0] * (many - len(other))
    return [(first + second) % PRIME for first, second in zip(one, other)]


def _shares(recurrence, index):
    """How often each of the first terms is contained in the one at an index."""
    shares = [1] + [0] * (len(recurrence) - 1)
    for figure in f"{index:b}":
        shares = _doubled(shares, recurrence)
        if figure == "1":
            shares = _one_on(shares, recurrence)
    return shares


def _one_on(shares, recurrence):
    """The shares of the term behind one of which the shares are given."""
    # What was the last one's share is now that of the term behind the first ones, which is a sum of them.
    return _sum_of([0] + shares[:-1], [shares[-1] * share for share in recurrence[::-1]])


def _doubled(shares, recurrence):
    """The shares of the term at twice the index."""
    many = len(shares)
    sums = [0] * (2 * many)
    for one, share in enumerate(shares):
        for two, other in enumerate(shares):
            sums[one + two] += share * other
    for index in range(2 * many - 1, many - 1, -1):
        top = sums[index] % PRIME
        for back, share in enumerate(recurrence):
            sums[index - 1 - back] += top * share
    return [number % PRIME for number in sums[:many]]
