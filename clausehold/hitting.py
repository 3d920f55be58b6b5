"""Rows of places, and the least ones that have a place in common with each of some rows."""


def bits_of(places):
    """One bit for each place."""
    bits = 0
    for place in places:
        bits = bits | (1 << place)
    return bits


def places_of(bits):
    """The places of these bits, rising."""
    return tuple([place for place in range(bits.bit_length()) if (bits >> place) & 1])


def crossed(hits, row):
    """The least rows that have a place in common with row, too, if hits are those for the rows ahead (all as bits)."""
    meeting = [hit for hit in hits if hit & row]
    wider = [hit | (1 << place) for hit in hits if not hit & row for place in places_of(row)]
    # Those made wider are none within another: without the place put in, hits would be.
    return meeting + [bits for bits in wider if not any([bits & hit == hit for hit in meeting])]


def least_hits(rows):
    """All least rows of places that have a place in common with each of rows, in order."""
    hits = [0]
    for row in rows:
        hits = crossed(hits, bits_of(row))
    return in_order([places_of(bits) for bits in hits])


def in_order(rows):
    """Rows of places by length, then member by member."""
    return tuple(sorted(sorted(rows), key=len))
