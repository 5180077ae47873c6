"""Logs of prints, and the ins whose runs fit them (point 54)."""

from classhouse.checks import check_seen
from classhouse.errors import BadLog
from classhouse.lookup import nearest_method
from classhouse.machine import begun, do_step
from classhouse.runs import MOST_STEPS
from classhouse.words import is_number, is_tuple

MOST_ENTRIES = 12
LOST = "lost"
MOST_SMALL = 7


def check_log(log):
    """Raises BadLog unless any value is a log."""
    if not is_tuple(log, 0, MOST_ENTRIES):
        raise BadLog(None)
    for index, entry in enumerate(log):
        if entry != LOST and not is_number(entry, 15):
            raise BadLog(index)


def count_unlike(machine, log):
    """How many numbers a run prints otherwise than noted, None if it does not end, or prints more or fewer."""
    # A run that has printed too many need not be led to its end.
    while machine.end is None and machine.done < MOST_STEPS and len(machine.printed) <= len(log):
        do_step(machine)
    if machine.end is None or len(machine.printed) != len(log):
        return None
    return len([entry for entry, number in zip(log, machine.printed) if entry not in (LOST, number)])


def fits_log(house, name, word, ins, log):
    """Tells whether ins fit a log."""
    machine = begun(house, name, word, ins)
    check_log(log)
    return count_unlike(machine, log) == 0


def small_ins(house, name, word):
    """The list of all small ins of a method that is seen, in their order."""
    rows = [()]
    for kind in nearest_method(house.classes, name, word)[1]:
        values = list(range(MOST_SMALL + 1)) if kind == "num" else [None]
        rows = [(*row, value) for row in rows for value in values]
    return rows


def counts_of_small(house, name, word, log):
    """The list of the pairs (many, ins) of the small ins with count_unlike, where this tells a number."""
    check_seen(house, name, word)
    check_log(log)
    pairs = [(count_unlike(begun(house, name, word, ins), log), ins) for ins in small_ins(house, name, word)]
    return [(many, ins) for many, ins in pairs if many is not None]


def ins_told(house, name, word, log):
    """The list of all small ins that fit a log, in their order."""
    return [ins for many, ins in counts_of_small(house, name, word, log) if many == 0]


def nearest_ins(house, name, word, log):
    """The pair (many, ins) of the first small ins whose run prints the fewest numbers otherwise than noted.

    None if no run of small ins ends and prints as many numbers as are noted or lost.
    """
    best = None
    for many, ins in counts_of_small(house, name, word, log):
        if best is None or many < best[0]:
            best = (many, ins)
    return best
