"""How many rounds a loop with a guard does: it goes on as long as the guard is at least 0 before the next round."""

from loopbounds.courses import course_of
from loopbounds.loops import check_loop, check_total
from loopbounds.ratios import as_ratio
from loopbounds.running import check_beginnings
from loopbounds.signs import first_below, signs_by_rests
from loopbounds.worst import ranges_of


def rounds_until(the_loop, the_guard, **beginnings):
    """How many rounds the loop does from these beginnings, None if it never ends."""
    check_loop(the_loop)
    check_total(the_loop, the_guard)
    check_beginnings(the_loop, beginnings)
    numbers = {name: as_ratio(beginnings[name]) for name in the_loop.names}
    ranges = {name: (numbers[name], numbers[name]) for name in numbers}
    return first_below(signs_by_rests(course_of(the_loop, the_guard, ranges)))


def fewest_rounds(loop, guard):
    """How many rounds the loop does at least, over all beginnings in the ranges, None if it never ends for any."""
    check_loop(loop)
    check_total(loop, guard)
    return first_below(signs_by_rests(course_of(loop, guard, ranges_of(loop))))
