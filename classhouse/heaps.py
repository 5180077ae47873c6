"""Heaps of lumps: what roots reach, and what counts clear (points 52 and 53)."""

from classhouse.errors import BadHeap, BadLump, BadRoots
from classhouse.machine import state_of
from classhouse.traces import behind
from classhouse.words import is_number, is_tuple

MOST_LUMPS = 8
MOST_HELD = 3


def check_heap(heap):
    """Raises BadHeap unless any value is a heap."""
    if not is_tuple(heap, 1, MOST_LUMPS):
        raise BadHeap(None)
    for index, held in enumerate(heap):
        if not is_tuple(held, 0, MOST_HELD) or not all([is_number(lump, len(heap) - 1) for lump in held]):
            raise BadHeap(index)


def check_roots(heap, roots):
    """Raises BadHeap, or BadRoots unless any value is an ascending tuple of unlike lumps."""
    check_heap(heap)
    if not isinstance(roots, tuple) or not all([is_number(lump, len(heap) - 1) for lump in roots]):
        raise BadRoots("no tuple of lumps")
    if not all([one < other for one, other in zip(roots, roots[1:])]):
        raise BadRoots("the lumps do not ascend")


def check_lump(heap, roots, lump):
    """Raises what check_roots does, or BadLump unless any value is a lump."""
    check_roots(heap, roots)
    if not is_number(lump, len(heap) - 1):
        raise BadLump("no lump of the heap")


def ways_from(heap, begins):
    """The dict from each lump to which ways lead from some ascending lumps to the least of the shortest ways."""
    ways = {lump: (lump,) for lump in begins}
    queue = list(begins)
    at = 0
    # The lumps come in the order of their ways, the shorter first, those of one length ascending.
    while at < len(queue):
        way = ways[queue[at]]
        at += 1
        for lump in sorted(heap[way[-1]]):
            if lump not in ways:
                ways[lump] = (*way, lump)
                queue.append(lump)
    return ways


def reached(heap, roots):
    """The ascending tuple of the lumps to which there are ways."""
    check_roots(heap, roots)
    return tuple(sorted(ways_from(heap, roots)))


def way_to(heap, roots, lump):
    """The least of the shortest ways to a lump, None if there is none."""
    check_lump(heap, roots, lump)
    return ways_from(heap, roots).get(lump)


def count_of(heap, roots, gone, lump):
    """How many times lumps that are not cleared hold a lump, and 1 more if it is a root."""
    many = sum([held.count(lump) for index, held in enumerate(heap) if index not in gone])
    return many + 1 if lump in roots else many


def first_free(heap, roots, gone):
    """The least lump that is not cleared, and whose count is 0, None if there is none."""
    for lump in range(len(heap)):
        if lump not in gone and count_of(heap, roots, gone, lump) == 0:
            return lump
    return None


def cleared_lumps(heap, roots):
    """The list of the lumps that are cleared by counts, in their order."""
    gone = []
    lump = first_free(heap, roots, gone)
    while lump is not None:
        gone.append(lump)
        lump = first_free(heap, roots, gone)
    return gone


def cleared(heap, roots):
    """The tuple of the lumps that are cleared by counts, each time the least one."""
    check_roots(heap, roots)
    return tuple(cleared_lumps(heap, roots))


def kept_besides(heap, roots):
    """The ascending tuple of the lumps that are neither cleared nor reached."""
    check_roots(heap, roots)
    told = [*cleared_lumps(heap, roots), *ways_from(heap, roots)]
    return tuple([lump for lump in range(len(heap)) if lump not in told])


def ring_of(heap, lump):
    """A ring that begins with a lump, None if there is none."""
    ways = ways_from(heap, sorted(set(heap[lump])))
    # Each way begins with a lump held; the ring begins with the lump itself instead of ending with it.
    return (lump, *ways[lump][:-1]) if lump in ways else None


def hold_of(heap, roots, lump):
    """A hold of a lump, by a way from a root if there is one, else by a ring; None if there is none."""
    check_lump(heap, roots, lump)
    ways = ways_from(heap, roots)
    if lump in ways:
        return "root", ways[lump]
    for begin in range(len(heap)):
        ring = ring_of(heap, begin)
        onward = ways_from(heap, (begin,))
        if ring is not None and lump in onward:
            return "ring", ring, onward[lump]
    return None


def is_row(heap, value):
    """Tells whether any value is a tuple of one or more lumps, each of which holds the next one."""
    if not isinstance(value, tuple) or not value or not all([is_number(lump, len(heap) - 1) for lump in value]):
        return False
    return all([other in heap[one] for one, other in zip(value, value[1:])])


def shows_hold(heap, roots, lump, value):
    """Tells whether any value is a hold of a lump."""
    check_lump(heap, roots, lump)
    if is_tuple(value, 2, 2) and value[0] == "root":
        return is_row(heap, value[1]) and value[1][0] in roots and value[1][-1] == lump
    if not is_tuple(value, 3, 3) or value[0] != "ring" or not is_row(heap, value[1]) or not is_row(heap, value[2]):
        return False
    ring, way = value[1:]
    return ring[0] in heap[ring[-1]] and way[0] == ring[0] and way[-1] == lump


def things_in(values):
    """The list of the numbers of the things among some values."""
    return [value[1] for value in values if isinstance(value, tuple)]


def live_at(house, name, word, ins, many):
    """The ascending tuple of the numbers of the things live behind so many steps, None if the run has ended."""
    machine = behind(house, name, word, ins, many)
    if machine.end is not None:
        return None
    found = []
    todo = [number for frame in state_of(machine) for number in things_in(frame[3] + frame[4])]
    while todo:
        number = todo.pop()
        if number not in found:
            found.append(number)
            todo.extend(things_in(list(machine.heap[number].values())))
    return tuple(sorted(found))
