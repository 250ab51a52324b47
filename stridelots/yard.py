"""Yards, in which standings are kept."""

from stridelots.books.doing import done
from stridelots.counts.fewest import fewest
from stridelots.errors import Few, Full, NoName
from stridelots.ways.led import led

LIMIT = 150000


class Yard:
    """Standings of one board, each under a name and with the log of the deeds done since it was put in."""

    def __init__(self, board, book, *, limit=LIMIT):
        self.busy = None
        self._board = board
        self._book = book
        self._limit = limit
        self._kept = {}
        self._logs = {}

    def __len__(self):
        return len(self._kept)

    def put(self, name, standing):
        """Keeps the standing under the name, with an empty log."""
        self._kept[name] = standing
        self._logs[name] = []

    def do(self, name, deeds, *, back=False):
        """Does the deeds, in order or back, and tells the standing then; or NoName, NoDeed, Full."""
        self._need(name)
        standing = self._done(name, deeds, back)
        self._note(name, deeds[::-1] if back else deeds)
        self._kept[name] = standing
        return standing

    def undo(self, name, *, many=1):
        """Undoes the last deeds, so many, and tells the standing then; or NoName, Few."""
        self._need(name)
        log = self._logs[name]
        if many > len(log):
            raise Few(len(log))
        left = len(log) - many
        standing = self._done(name, log[left:], True)
        self._kept[name] = standing
        del log[left:]
        return standing

    def lead(self, name, goal, *, least=False):
        """Leads to the goal, by the fewest deeds or any, and tells how many; or NoName, Barred, TooMany, Full."""
        self._need(name)
        if least:
            deeds = fewest(self._board, self._book, self._kept[name], goal)
        else:
            deeds = led(self._board, self._book, self._kept[name], goal)
        self.do(name, deeds)
        return len(deeds)

    def standing(self, name):
        """The standing under the name, or NoName."""
        self._need(name)
        return self._kept[name]

    def log(self, name):
        """The deeds done since the standing was put in, but for those undone; or NoName."""
        self._need(name)
        return tuple(self._logs[name])

    def names(self):
        """All names, sorted."""
        return sorted(self._kept)

    def stands(self):
        """All standings by their names."""
        return {name: self._kept[name] for name in self.names()}

    def _need(self, name):
        """None where something is kept under the name, else NoName."""
        if name not in self._kept:
            raise NoName(name)

    def _done(self, name, deeds, back):
        """The standing behind the deeds, done on what is kept under the name; or NoDeed."""
        self.busy = name
        try:
            return done(self._board, self._book, self._kept[name], deeds, back=back)
        finally:
            self.busy = None

    def _note(self, name, deeds):
        """Notes the deeds in the log, or Full."""
        log = self._logs[name]
        over = len(log) + len(deeds) - self._limit
        if over > 0:
            raise Full(over)
        log.extend(deeds)
