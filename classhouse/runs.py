"""What runs come to (points 13 and 14)."""

from classhouse.errors import TooLong
from classhouse.machine import begun, do_step

MOST_STEPS = 2000


def ended(house, name, word, ins):
    """The machine of a run that has ended."""
    machine = begun(house, name, word, ins)
    while machine.end is None:
        if machine.done == MOST_STEPS:
            raise TooLong(MOST_STEPS)
        do_step(machine)
    return machine


def run(house, name, word, ins):
    """How a run ends: ("gives", answer), ("throws", class) or ("wrong", class, place, step)."""
    return ended(house, name, word, ins).end


def prints(house, name, word, ins):
    """The tuple of the numbers that a run prints."""
    return tuple(ended(house, name, word, ins).printed)


def count_steps(house, name, word, ins):
    """How many steps of a run are begun."""
    return ended(house, name, word, ins).done


def things_of(house, name, word, ins):
    """The tuple of the classes of all things that a run makes."""
    return tuple(ended(house, name, word, ins).things)


def heap_behind(house, name, word, ins):
    """The tuple of the tuples of the values that the fields of all things have at the end of a run."""
    return tuple([tuple(fields.values()) for fields in ended(house, name, word, ins).heap])


def held_behind(house, name, word, ins):
    """The tuple of how often each thing is held at the end of a run."""
    return tuple(ended(house, name, word, ins).held)
