"""The states of runs, and the methods and steps that runs meet (points 15 and 16)."""

from classhouse.errors import BadCount
from classhouse.machine import begun, do_step, state_of
from classhouse.words import is_alike, is_number


def begun_for(house, name, word, ins, many):
    """The machine of a run ahead of its first step, many being how many steps are asked for."""
    machine = begun(house, name, word, ins)
    if not is_number(many, 2000):
        raise BadCount("no integer from 0 to 2000")
    return machine


def behind(house, name, word, ins, many):
    """The machine of a run behind so many steps, or at its end, if this comes earlier."""
    machine = begun_for(house, name, word, ins, many)
    while machine.end is None and machine.done < many:
        do_step(machine)
    return machine


def state_behind(house, name, word, ins, many):
    """The state of a run behind so many steps, None if it has ended by then."""
    machine = behind(house, name, word, ins, many)
    return state_of(machine) if machine.end is None else None


def trace(house, name, word, ins, many):
    """The list of the states of a run behind 0, 1 and so on steps, up to so many, or to the last one."""
    machine = begun_for(house, name, word, ins, many)
    states = [state_of(machine)]
    while machine.done < many:
        do_step(machine)
        if machine.end is not None:
            return states
        states.append(state_of(machine))
    return states


def shows_trace(house, name, word, ins, value):
    """Tells whether any value is a list or tuple of the first states of a run, one or more."""
    machine = begun(house, name, word, ins)
    if not isinstance(value, (list, tuple)) or not value:
        return False
    for state in value:
        if machine.end is not None or not is_alike(state, state_of(machine)):
            return False
        do_step(machine)
    return True


def calls_of(house, name, word, ins, many):
    """The list of the pairs (class, place) of the methods that a run goes into by so many steps."""
    return list(behind(house, name, word, ins, many).calls)


def met_steps(house, name, word, ins, many):
    """The ascending list of the triples (class, place, step) of the steps that a run begins by so many."""
    return sorted(behind(house, name, word, ins, many).met)
