"""The texts of loops."""

from loopbounds.errors import InputError, InvalidText, LimitError, StateError
from loopbounds.kinds import is_name
from loopbounds.loops import Loop, check_loop
from loopbounds.ratios import integer_told, ratio_told
from loopbounds.sums import sum_told


def range_text(name, ends):
    """The text of a variable and its range."""
    low, high = ends
    if high is None:
        return f"{name} in {low} up"
    if low == high:
        return f"{name} in {low}"
    return f"{name} in {low} to {high}"


def assignment_text(name, total, every, at):
    """The text of an assignment."""
    if every == 1:
        return f"{name} = {total}"
    return f"{name} = {total} every {every} at {at}"


def write_loop(loop):
    """The text of a loop: a line for each variable, then one for each assignment."""
    check_loop(loop)
    lines = [range_text(name, loop.range_of(name)) for name in loop.names]
    lines.extend([assignment_text(name, total, every, at) for name, total, every, at in loop.body])
    return "\n".join(lines)


def range_told(words):
    """What stands for a range behind NAME in; None in it, or for it, where no number stands."""
    if words.endswith(" up"):
        return (ratio_told(words.removesuffix(" up")), None)
    low, between, high = words.partition(" to ")
    if between:
        return (ratio_told(low), ratio_told(high))
    return ratio_told(low)


def assigned_told(words):
    """The sum, every and at behind NAME =, each None where it is not told."""
    total = sum_told(words)
    # A sum may have the names every and at, but never ends like this behind its last name.
    if total is not None:
        return (total, 1, 0)
    ahead, _, times = words.rpartition(" every ")
    every, _, at = times.partition(" at ")
    return (sum_told(ahead), integer_told(every), integer_told(at))


def loop_told(text):
    """A loop that has this text if any loop has it, None if what is told is no loop."""
    ranges = {}
    body = []
    for line in text.split("\n"):
        name, _, behind = line.partition(" ")
        word, _, words = behind.partition(" ")
        if word == "in" and is_name(name):
            ranges[name] = range_told(words)
        else:
            body.append((name, *assigned_told(words)))
    # The loop itself refuses what was not told.
    try:
        loop = Loop(**ranges)
        for name, total, every, at in body:
            loop.assign(name, total, every=every, at=at)
    except (InputError, StateError, LimitError):
        return None
    return loop


def read_loop(text):
    """The loop with a text, written as write_loop does."""
    if not isinstance(text, str):
        raise InvalidText(text)
    loop = loop_told(text)
    if loop is None or write_loop(loop) != text:
        raise InvalidText(text)
    return loop
