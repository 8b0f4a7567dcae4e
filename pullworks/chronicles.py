"""Chronicles of a schedule: how many events there are ahead of a place, and at which place there are so many.

A place is that of places.py; steps of pulls and closes have places, and so does what is right behind a pull.
"""

from pullworks.kinds import SOURCES
from pullworks.moments import counts_behind, reads_by
from pullworks.places import close_place, first_stop, many_ahead, many_in, pull_place, pulls_ahead
from pullworks.schedules import end_state, written


class Chronicle:
    """What a schedule does, up to a pull that is never answered if there is one."""

    def __init__(self, plan, steps):
        self.plan = plan
        self.steps = steps
        self.stuck_at = first_stop(plan, steps, pull_place)
        self.note_list = written(plan, steps)
        self.last = end_state(plan, steps)
        self.sources = [name for name in plan.kinds if plan.kinds[name] in SOURCES]
        self.closes = {outlet: close_place(steps, outlet) for outlet in plan.outlets}

    def pulls_at(self, place):
        """Return the pulls on the outlets on their tapes ahead of a place."""
        found = {}
        for outlet in self.plan.outlets:
            close = self.closes[outlet]
            bound = place if close is None or place < close else close
            found[outlet] = pulls_ahead(self.steps, outlet, bound)
        return found

    def reads_at(self, source, place):
        """Return the reads of a source ahead of a place."""
        counts = self.plan.pulls_within(self.pulls_at(place))
        return self.plan.tapes[source].used(0, counts[source])

    def events_at(self, place):
        """Return how many events there are ahead of a place."""
        counts = self.plan.pulls_within(self.pulls_at(place))
        many = sum([self.plan.tapes[source].used(0, counts[source]) for source in self.sources])
        for outlet in self.plan.outlets:
            many += sum([many_ahead(self.steps, word, outlet, place) for word in ("pull", "close")])
        return many + len(self.notes_at(place))

    def notes_at(self, place):
        """Return the closing nodes that have written their notes ahead of a place."""
        return [name for at, name in self.note_list if at < place]

    def level_at(self, source, place):
        """Return how many reads of a source there are ahead of a place, or how many events if the source is None."""
        return self.events_at(place) if source is None else self.reads_at(source, place)

    def place_of(self, source, number):
        """Return the place of the pull or close in which the event with a number is, or the read of a source."""
        path = self.path_within(source, number, self.steps, ())
        step = self.step_at(path)
        if step[0] == "close":
            return path, 0
        return path, self.last_level(source, number, step[2], lambda many: (path, many))

    def path_within(self, source, number, steps, path):
        """Return the path of the step, among those with this path ahead of them, in which an event is."""
        at = self.last_level(source, number, len(steps), lambda many: (path + (many,), 0))
        step = steps[at]
        if step[0] != "repeat":
            return path + (at,)
        rounds = self.last_level(source, number, step[1], lambda many: (path + (at, many, 0), 0))
        return self.path_within(source, number, step[2], path + (at, rounds))

    def last_level(self, source, number, many, place):
        """Return the last one of so many places ahead of which there are not more than so many events."""
        low = 0
        high = many
        while high - low > 1:
            middle = (low + high) // 2
            if self.is_done(place(middle)) and self.level_at(source, place(middle)) <= number:
                low = middle
            else:
                high = middle
        return low

    def is_done(self, place):
        """Tell whether a place is not behind the pull that is never answered, if there is one."""
        return self.stuck_at is None or place <= self.stuck_at.place

    def step_at(self, path):
        """Return the step with a path."""
        step = self.steps[path[0]]
        for at in range(2, len(path), 2):
            step = step[2][path[at]]
        return step

    def reads_in_all(self, source):
        """Return how often a source is read, None for no end of it."""
        counts = counts_behind(self.plan, self.last.pulls, None if self.stuck_at is None else self.stuck_at.outlet)
        return reads_by(self.plan, source, counts)

    def many_in_all(self, word, outlet):
        """Return how many pulls on an outlet are answered, or how often it is closed, as the word says."""
        if self.stuck_at is None:
            return many_in(self.steps, word, outlet)
        return many_ahead(self.steps, word, outlet, self.stuck_at.place)

    def many_events(self):
        """Return how many events there are, of which there is an end."""
        many = sum([self.reads_in_all(source) for source in self.sources]) + len(self.note_list)
        for outlet in self.plan.outlets:
            many += self.many_in_all("pull", outlet) + self.many_in_all("close", outlet)
        return many
