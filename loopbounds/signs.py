"""The signs of the least values of a sum after all numbers of rounds."""

from loopbounds.courses import settled_strand
from loopbounds.errors import TooFar
from loopbounds.rows import signs_from

# A sum that is without bound below does not hold, like one whose least value is less than 0.


def place_and_signs(course, rest):
    """The pair of the place T1 of point 18 for a rest and the list of the signs of the least values at 0, .., T2."""
    strand, leasts = settled_strand(course, rest)
    signs = [-1 if least is None or least < 0 else 1 for least in leasts]
    levels = strand.worst_levels()
    if levels is None:
        return strand.place, [*signs, -1]
    later = signs_from(strand.roots, levels, course.farthest(rest) - strand.place)
    if later is None:
        raise TooFar()
    return strand.place, [*signs, *later]


def signs_by_rests(course):
    """The list of such pairs for all rests."""
    return [place_and_signs(course, rest) for rest in range(course.span)]


def first_below(pairs):
    """The least number of rounds with the sign -1 in such pairs for all rests; None if there is none."""
    # The signs stay as they are behind the end of each list.
    found = [len(pairs) * signs.index(-1) + rest for rest, (_, signs) in enumerate(pairs) if -1 in signs]
    return min(found, default=None, key=int)
