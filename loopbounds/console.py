"""A console: lines of text that make, change and ask a desk."""

from loopbounds.desks import Desk
from loopbounds.errors import InvalidCommand, UnknownName
from loopbounds.extremes import greatest, least
from loopbounds.holding import first_break
from loopbounds.kinds import is_name
from loopbounds.loops import Loop
from loopbounds.ratios import integer_told
from loopbounds.running import value_after
from loopbounds.sums import sum_told
from loopbounds.texts import assigned_told, range_told, range_text, write_loop

# What follows reads what stands behind the first word of a line: a list of arguments, with None for what is no text of
# the kind that is asked for.


def ranges_read(words):
    """The dict of the ranges that texts with a semicolon between tell, None in it for what is not written so."""
    ranges = {}
    before = ""
    for text in words.split("; "):
        name, _, behind = text.partition(" in ")
        if not is_name(name) or name <= before:
            return [None]
        told = range_told(behind)
        low, high = told if isinstance(told, tuple) else (told, told)
        # A range has one text alone: a loop may refuse the range, but not the way in which it is written.
        if low is None or range_text(name, (low, high)) != text:
            return [None]
        ranges[name] = (low, high)
        before = name
    return [ranges]


def name_read(word):
    """A name."""
    return [word if is_name(word) else None]


def index_read(word):
    """An integer."""
    return [integer_told(word)]


def total_read(words):
    """A sum."""
    return [sum_told(words)]


def name_and_total_read(words):
    """A name and a sum."""
    name, _, total = words.partition(" ")
    return [*name_read(name), sum_told(total)]


def total_and_rounds_read(words):
    """A sum and an integer."""
    total, _, rounds = words.rpartition(" ")
    return [sum_told(total), integer_told(rounds)]


READERS = {
    "loop": ranges_read, "guard": name_and_total_read, "free": name_read, "drop": index_read, "holds": total_read,
    "least": total_read, "greatest": total_read, "value": total_and_rounds_read,
}


def command_told(line):
    """The tuple of the word for what a line asks and of its arguments, None for any value that is no such line."""
    if not isinstance(line, str):
        return None
    if line in ("undo", "show"):
        return (line,)
    word, _, behind = line.partition(" ")
    # An assignment may begin with any name, but nothing else goes on like this.
    if behind.startswith("= "):
        word, arguments = "assign", [*name_read(word), *assigned_told(behind.removeprefix("= "))]
    elif word in READERS:
        reader = READERS[word]
        arguments = reader(behind)
    else:
        return None
    if None in arguments:
        return None
    return (word, *arguments)


def holding_text(loop, total):
    """The answer to whether a sum always holds."""
    found = first_break(loop, total)
    if found is None:
        return "always"
    return f"not after {found[0]} rounds"


def extreme_text(told):
    """The answer to how great or small a sum can become, told by what greatest or least returns."""
    value, rounds, _ = told
    text = "without bound" if value is None else str(value)
    if rounds is not None:
        return f"{text} after {rounds} rounds"
    return text if value is None else f"{text} not reached"


def answer(loop, word, arguments):
    """The answer to a question on a loop."""
    if word == "holds":
        return holding_text(loop, *arguments)
    if word == "least":
        return extreme_text(least(loop, *arguments))
    if word == "greatest":
        return extreme_text(greatest(loop, *arguments))
    if word == "value":
        return str(value_after(loop, *arguments))
    return write_loop(loop).replace("\n", "; ")


class Console:
    """A desk, at first none, that is told by lines of text what to do."""

    def __init__(self):
        self._desk = None

    @property
    def desk(self):
        """The desk that is kept now, None if there is none yet."""
        return self._desk

    def say(self, line):
        """Execute a line and return the answer."""
        command = command_told(line)
        if command is None:
            raise InvalidCommand(line)
        word, *arguments = command
        if word == "loop":
            ranges = arguments[0]
            self._desk = Desk(Loop(**ranges))
            return "ok"
        if self._desk is None:
            raise UnknownName("desk")
        if word in ("holds", "least", "greatest", "value", "show"):
            return answer(self._desk.loop(), word, arguments)
        if word == "undo":
            self._desk.undo()
        else:
            self._desk.do_all((word, *arguments))
        return "ok"
