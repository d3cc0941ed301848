"""How many ticks the rows of a machine's block take."""

from passpapers.places import place_written, places_read


class Clock:
    """When what the rows so far wrote is ready, when the last one began, and the greatest tick of all these."""

    def __init__(self, delays):
        self.delays = delays
        self.ready = {}
        self.begun = -1
        self.greatest = 0

    def delay_of(self, row):
        return self.delays.get(row[0], 1)

    def beginning(self, row):
        """The tick at which the row begins where it is the next one."""
        return max([self.begun + 1] + [self.ready.get(place, 0) for place in places_read(row)])

    def begin(self, row):
        self.begun = self.beginning(row)
        self.greatest = max(self.greatest, self.begun)
        place = place_written(row)
        if place is not None:
            self.ready[place] = self.begun + self.delay_of(row)
            self.greatest = max(self.greatest, self.ready[place])


def ticks_of(rows, delays):
    """The greatest tick at which one of the rows begins, or something that they write is ready."""
    clock = Clock(delays)
    for row in rows:
        clock.begin(row)
    return clock.greatest
