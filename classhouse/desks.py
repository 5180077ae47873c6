"""Desks that lead runs forth and back (point 55)."""

from classhouse.errors import BadSpot
from classhouse.machine import begun, do_step, machine_like, state_of
from classhouse.runs import MOST_STEPS
from classhouse.unwinding import is_spot


class Desk:
    """A run that is led step by step; it keeps how it stood ahead of each step that is done."""

    def __init__(self, house, name, word, ins):
        self._told = (house, name, word, ins)
        self._machine = begun(house, name, word, ins)
        self._past = []

    @property
    def own_state(self):
        """The state of the run, None if it has ended."""
        return state_of(self._machine) if self._machine.end is None else None

    @property
    def own_prints(self):
        """The tuple of the numbers that the steps done have printed."""
        return tuple(self._machine.printed)

    def __len__(self):
        return len(self._past)

    def forth(self):
        """Does the next step; False if the run has ended, or 2000 steps are done."""
        if self._machine.end is not None or len(self._past) == MOST_STEPS:
            return False
        self._past.append(machine_like(self._machine))
        do_step(self._machine)
        return True

    def back(self):
        """Goes back by one step; False if none was done."""
        if not self._past:
            return False
        # A copy may share the machine of the past, so that this one does not go on itself.
        self._machine = machine_like(self._past.pop())
        return True

    def go_to(self, name, place, step):
        """Does steps till a step of a method comes next; False, and nothing done, if it does not come."""
        if not is_spot(self._machine.class_rows, (name, place, step)):
            raise BadSpot("no step of a method")
        ahead = self.copy()
        while not ahead.comes_next(name, place, step):
            if not ahead.forth():
                return False
        self._machine = ahead._machine
        self._past = ahead._past
        return True

    def comes_next(self, name, place, step):
        """Tells whether a step of a method comes next in the uppermost frame."""
        machine = self._machine
        return machine.end is None and (machine.name, machine.place, machine.step) == (name, place, step)

    def over(self):
        """Does one step, and all of the method if that went into one; False as forth tells it."""
        many = len(self._machine.below)
        if not self.forth():
            return False
        while len(self._machine.below) > many and self.forth():
            pass
        return True

    def copy(self):
        """An independent desk that stands as this one."""
        house, name, word, ins = self._told
        other = Desk(house, name, word, ins)
        other._machine = machine_like(self._machine)
        other._past = list(self._past)
        return other
