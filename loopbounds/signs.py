"""The signs of the least values of a sum after all numbers of rounds."""

from loopbounds.courses import settled_strand
from loopbounds.errors import TooFar
from loopbounds.rows import signs_from

# A sum that is without bound below does not hold, like one whose least value is less than 0.


def places_and_signs(course, rest):
    """The place T1 of point 18 for a rest, and the list of the signs of the least values from the place 0 to T2."""
    strand, leasts = settled_strand(course, rest)
    signs = [-1 if least is None or least < 0 else 1 for least in leasts]
    levels = strand.worst_levels()
    if levels is None:
        return strand.place, [*signs, -1]
    later = signs_from(strand.roots, levels, course.farthest(rest) - strand.place)
    if later is None:
        raise TooFar()
    return strand.place, [*signs, *later]


def signs_by_rests(course):
    """The list of such lists of signs for all rests."""
    return [places_and_signs(course, rest)[1] for rest in range(course.span)]


def first_below(rows):
    """The least number of rounds with the sign -1 in such lists; None if there is none."""
    # The signs stay as they are behind the end of each list.
    found = [len(rows) * signs.index(-1) + rest for rest, signs in enumerate(rows) if -1 in signs]
    return min(found, default=None, key=int)
