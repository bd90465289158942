"""Runs: objects whose methods are called (points 17 and 18)."""

from carriedfields.errors import BadCall, BadState, BadStep, BadValue, NoMethod, NotNow
from carriedfields.executing import can_call, first_wrong_thing, has_method, is_call, outcome
from carriedfields.values import is_state


class Run:
    """An object of a shape, new at first."""

    def __init__(self, shape):
        self.shape = shape
        self.now = (shape.firsts, False)

    @classmethod
    def set_up(cls, shape, state):
        """A run with this state."""
        if not is_state(shape, state):
            raise BadState(state)
        run = cls(shape)
        run.now = state
        return run

    @property
    def state(self):
        """The values of the object, and whether it is within."""
        return self.now

    @property
    def is_within(self):
        """Whether the object is within."""
        return self.now[1]

    def call(self, name, *things):
        """The report of a call."""
        if not has_method(self.shape, name):
            raise NoMethod(name)
        if len(things) != len(self.shape.versions[name][0].params):
            raise BadCall(name)
        at = first_wrong_thing(self.shape, things)
        if at is not None:
            raise BadValue(at)
        if not can_call(self.shape, name, self.now[1]):
            raise NotNow(name)
        report, self.now = outcome(self.shape, self.now, name, things)
        return report

    def play(self, history):
        """The reports of the calls of a history, a list."""
        state = self.now
        reports = []
        for step in history:
            if not is_call(self.shape, step):
                raise BadStep(step)
            if not can_call(self.shape, step[1], state[1]):
                raise NotNow(step[1])
            report, state = outcome(self.shape, state, step[1], step[2:])
            reports.append(report)
        self.now = state
        return reports
