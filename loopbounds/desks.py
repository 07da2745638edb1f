"""Desks: loops that are changed by deeds, none of which may break a sum that is guarded."""

from loopbounds.errors import Broken, Busy, InvalidDeeds, InvalidName, InvalidNumber, NothingToUndo, Refused
from loopbounds.errors import UnknownName
from loopbounds.holding import first_break
from loopbounds.kinds import is_int, is_name
from loopbounds.loops import check_loop, check_total
from loopbounds.sums import as_sum

# The words with which deeds begin, and how many items a deed with each of them has.
DEEDS = {"guard": 3, "free": 2, "assign": 5, "drop": 2}


def check_guards(loop, guards, names):
    """Raise the error that is due if, in a loop, one of the guarded sums with these names does not always hold."""
    breaks = {name: first_break(loop, guards[name]) for name in names}
    for name in sorted(breaks, key=str):
        if breaks[name] is not None:
            rounds, beginning = breaks[name]
            raise Refused(name) from Broken(rounds, beginning)


def is_deed(value):
    """Whether a value has the form of a deed: a word and as many items as go with it."""
    if not isinstance(value, tuple) or not value or not isinstance(value[0], str):
        return False
    return len(value) == DEEDS.get(value[0], 0)


def check_deeds(deeds):
    """Raise InvalidDeeds if not all values have the form of deeds."""
    for index, deed in enumerate(deeds):
        if not is_deed(deed):
            raise InvalidDeeds(index)


class Desk:
    """A loop, sums that always hold in it, and the deeds that led to both.

    The loop, the dict of guarded sums and the list of past deeds that a desk keeps are never changed, only replaced. So
    what was before a deed can be kept with it, and comes back as it was.
    """

    def __init__(self, loop):
        check_loop(loop)
        self._loop = loop.copy()
        self._guards = {}
        # Triples of a deed, and of the loop and the guarded sums before it.
        self._past = []
        self._busy = False

    @property
    def guards(self):
        """The tuple of the pairs (name, sum) that are guarded, in ascending order of the names."""
        return tuple([(name, self._guards[name]) for name in sorted(self._guards, key=str)])

    @property
    def busy(self):
        """Whether do_all is at work."""
        return self._busy

    @property
    def history(self):
        """The tuple of the deeds that were done and not undone."""
        return tuple([deed for deed, _, _ in self._past])

    def loop(self):
        """A copy of the loop."""
        return self._loop.copy()

    def guard(self, name, total):
        """Guard a sum under a name."""
        self._check_idle()
        self._guard(name, total)

    def free(self, name):
        """Do not guard the sum under a name any more."""
        self._check_idle()
        self._free(name)

    def assign(self, name, total, *, every=1, at=0):
        """Add an assignment at the end of the body of the loop."""
        self._check_idle()
        self._assign(name, total, every, at)

    def drop(self, index):
        """Take the assignment with this index out of the body of the loop."""
        self._check_idle()
        self._drop(index)

    def do_all(self, *deeds, watch=None):
        """Do these deeds, all or none, and return their number; `watch` is called with the desk behind each of them."""
        self._check_idle()
        check_deeds(deeds)
        loop = self._loop
        guards = self._guards
        past = self._past
        undone = past
        self._busy = True
        try:
            for deed in deeds:
                self._do(deed)
                if watch is not None:
                    watch(self)
            undone = None
        finally:
            self._busy = False
            # Whatever was raised, also by `watch`, leads here before all deeds have been done.
            if undone is not None:
                self._loop = loop
                self._guards = guards
                self._past = past
        return len(deeds)

    def undo(self, *, times=1):
        """Take back the last deeds, so many."""
        self._check_idle()
        if not is_int(times) or times < 1:
            raise InvalidNumber(times)
        if times > len(self._past):
            raise NothingToUndo()
        _, self._loop, self._guards = self._past[-times]
        self._past = self._past[:-times]

    def _check_idle(self):
        if self._busy:
            raise Busy()

    def _do(self, deed):
        word, *rest = deed
        if word == "guard":
            self._guard(*rest)
        elif word == "free":
            self._free(*rest)
        elif word == "assign":
            self._assign(*rest)
        else:
            self._drop(*rest)

    def _guard(self, name, total):
        if not is_name(name):
            raise InvalidName(name)
        check_total(self._loop, total)
        guards = {**self._guards, name: as_sum(total)}
        # The loop stays as it is, and so the other sums hold.
        check_guards(self._loop, guards, [name])
        self._keep(("guard", name, as_sum(total)), self._loop, guards)

    def _free(self, name):
        if not is_name(name):
            raise InvalidName(name)
        if name not in self._guards:
            raise UnknownName(name)
        guards = {other: self._guards[other] for other in self._guards if other != name}
        self._keep(("free", name), self._loop, guards)

    def _assign(self, name, total, every, at):
        loop = self._loop.copy()
        loop.assign(name, total, every=every, at=at)
        self._change(("assign", name, as_sum(total), every, at), loop)

    def _drop(self, index):
        loop = self._loop.copy()
        loop.drop(index)
        self._change(("drop", index), loop)

    def _change(self, deed, loop):
        check_guards(loop, self._guards, list(self._guards))
        self._keep(deed, loop, self._guards)

    def _keep(self, deed, loop, guards):
        self._past = [*self._past, (deed, self._loop, self._guards)]
        self._loop = loop
        self._guards = guards
