"""Holds: the days that a sweep leaves readable."""

from onecopy.errors import NotHeld


class Holds:
    """Counts for each day of a chest how often it is held."""

    def __init__(self, chest):
        self.chest = chest
        # Only days that are held have a count.
        self._counts = {}

    def hold_day(self, day):
        """Hold the day once more."""
        self.chest.check_day(day)
        self._counts[day] = self.count_of(day) + 1

    def release_day(self, day):
        """Hold the day once less."""
        if self.count_of(day) == 0:
            raise NotHeld(day)
        self._counts[day] -= 1
        if self._counts[day] == 0:
            del self._counts[day]

    def count_of(self, day):
        """How often the day is held."""
        return self._counts.get(day, 0)

    def held(self):
        """The held days, ascending."""
        return sorted(list(self._counts))

    def counts(self):
        """For each held day how often it is held."""
        return dict(self._counts)

    def sweep_copies(self):
        """Remove every copy that neither a held day nor the present one reaches. Returns their number."""
        return self.chest.sweep_to([day for day in self.held() if self.chest.is_readable(day)])


def survey(engine, holds, days, path):
    """What is read along the path on each of the days, all of which are held meanwhile."""
    counts = holds.counts()
    try:
        for day in days:
            holds.hold_day(day)
        return [engine.follow(path, day) for day in days]
    finally:
        holds._counts = counts
