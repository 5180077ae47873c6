"""Roads gone through one by one, to compare with what the package tells."""

from helpers import House  # noqa: F401  (sets the path)

from classhouse.frames import first_frame, turns_from
from classhouse.kinds import fits, joined


def code_of(house, name, place):
    """The code of a method."""
    return [row[3][place][3] for row in house.classes if row[0] == name][0]


def all_frames(house, name, place, most=3000):
    """A dict from each (step, frame) to which roads lead to the least of the shortest such roads.

    None if there are more than most.
    """
    begin = (0, first_frame(house, name, place))
    roads = {begin: ()}
    layer = [begin]
    while layer:
        found = {}
        for step, frame in layer:
            for turn, made in turns_from(house, name, place, step, frame) or []:
                spot = (turn[0], made)
                road = roads[(step, frame)] + (turn,)
                if spot not in roads and (spot not in found or road < found[spot]):
                    found[spot] = road
        roads.update(found)
        layer = list(found)
        if len(roads) > most:
            return None
    return roads


def least_wrong(house, name, place, roads):
    """The least of the shortest wrong roads, None if there is none."""
    wrong = [road for (step, frame), road in roads.items()
             if turns_from(house, name, place, step, frame) is None]
    return min(wrong, key=lambda road: (len(road), road), default=None)


def table_of(house, name, place, roads):
    """For each step and height the frame joined of all that roads lead to."""
    table = [{} for _ in code_of(house, name, place)]
    for step, frame in roads:
        frames = table[step]
        height = len(frame[1])
        old = frames.get(height, frame)
        frames[height] = (tuple(joined(house, one, other) for one, other in zip(old[0], frame[0])),
                          tuple(joined(house, one, other) for one, other in zip(old[1], frame[1])))
    return tuple(tuple(frames[height] for height in sorted(frames)) for frames in table)


def frame_fits(house, one, other):
    """Tells whether a frame fits another one."""
    return len(one[1]) == len(other[1]) and all(
        fits(house, kind, wide) for kind, wide in zip(one[0] + one[1], other[0] + other[1]))
