"""The checker of methods: tables, verdicts and walks (points 20 to 22)."""

from classhouse.checks import check_house, check_place
from classhouse.errors import BadTold
from classhouse.frames import does_frame_fit, frame_ahead, is_frame, turns_of
from classhouse.lookup import method_at
from classhouse.order import join_of
from classhouse.roads import is_wrong_road, wrong_road
from classhouse.steps import goals_in
from classhouse.words import is_tuple


def frame_joined(classes, one, other):
    """The frame that has in each place the kind joined of those of two frames of the same height."""
    cells = [join_of(classes, kind, wider) for kind, wider in zip(one[0], other[0])]
    stack = [join_of(classes, kind, wider) for kind, wider in zip(one[1], other[1])]
    return tuple(cells), tuple(stack)


def frames_met(classes, name, method):
    """The dict from (step, height) to the frame joined of all roads that lead there, None if a road is wrong."""
    met = {}
    todo = [(0, frame_ahead(name, method))]
    # Joined frames may stand for all roads, as a step makes each place from one place or from none, and goes wrong
    # on joined kinds just if it goes wrong on one of them.
    while todo:
        step, frame = todo.pop()
        spot = (step, len(frame[1]))
        joined_frame = frame_joined(classes, met[spot], frame) if spot in met else frame
        if spot in met and joined_frame == met[spot]:
            continue
        met[spot] = joined_frame
        turns = turns_of(classes, method, step, joined_frame)
        if turns is None:
            return None
        todo.extend([(turn[0], behind) for turn, behind in turns])
    return met


def checked(house, name, place):
    """The table of the frames joined of all roads, None if a road is wrong."""
    check_place(house, name, place)
    method = method_at(house.classes, name, place)
    met = frames_met(house.classes, name, method)
    if met is None:
        return None
    table = [[] for _ in method[3]]
    for spot in sorted(met):
        table[spot[0]].append(met[spot])
    return tuple([tuple(frames) for frames in table])


def not_let(house):
    """The list of the pairs (name, place) of all methods with a wrong road."""
    check_house(house)
    found = []
    for name, _, _, methods in house.classes:
        for place in range(len(methods)):
            if checked(house, name, place) is None:
                found.append((name, place))
    return found


def are_frames(classes, value):
    """Tells whether any value is a tuple of frames of unlike heights, the lesser ones first."""
    if not isinstance(value, tuple) or not all([is_frame(classes, frame) for frame in value]):
        return False
    return all([len(one[1]) < len(other[1]) for one, other in zip(value, value[1:])])


def does_fit_one(classes, frame, frames):
    """Tells whether a frame fits one of some frames."""
    return any([does_frame_fit(classes, frame, other) for other in frames])


def does_table_hold(classes, name, method, table):
    """Tells whether a table of a method holds."""
    if not does_fit_one(classes, frame_ahead(name, method), table[0]):
        return False
    for step, frames in enumerate(table):
        for frame in frames:
            turns = turns_of(classes, method, step, frame)
            if turns is None:
                return False
            if not all([does_fit_one(classes, behind, table[turn[0]]) for turn, behind in turns]):
                return False
    return True


def shows_table(house, name, place, value):
    """Tells whether any value is a table of a method that holds."""
    check_place(house, name, place)
    method = method_at(house.classes, name, place)
    if not is_tuple(value, len(method[3]), len(method[3])):
        return False
    if not all([are_frames(house.classes, frames) for frames in value]):
        return False
    return does_table_hold(house.classes, name, method, value)


def verdict(house, name, place):
    """("table", table) with the table of checked, or ("road", road) with a wrong road."""
    table = checked(house, name, place)
    if table is None:
        return "road", wrong_road(house, name, place)
    return "table", table


def shows_verdict(house, name, place, value):
    """Tells whether any value is a pair of "table" and a table that holds, or of "road" and a wrong road."""
    check_place(house, name, place)
    if not is_tuple(value, 2, 2):
        return False
    if value[0] == "table":
        return shows_table(house, name, place, value[1])
    return value[0] == "road" and is_wrong_road(house, name, place, value[1])


def jumped_to(house, name, place):
    """The ascending tuple of the steps that are jumped to."""
    check_place(house, name, place)
    return goals_in(method_at(house.classes, name, place))


def check_told(classes, goals, told):
    """Raises BadTold unless any value is told frames for these goals."""
    if not is_tuple(told, len(goals), len(goals)):
        raise BadTold(None)
    for index, frames in enumerate(told):
        if not are_frames(classes, frames):
            raise BadTold(index)


def frames_onward(classes, method, step, frames, table):
    """The frames with which some frames go on to the next step, if this is not jumped to.

    table has the told frames of each step that is jumped to; None if a step goes wrong, or what is turned to one
    of these fits none.
    """
    onward = []
    for frame in frames:
        turns = turns_of(classes, method, step, frame)
        if turns is None:
            return None
        for turn, behind in turns:
            if turn[0] not in table:
                onward.append(behind)
            elif not does_fit_one(classes, behind, table[turn[0]]):
                return None
    return onward


def walk_passes(house, name, place, told):
    """Tells whether the walk through the steps passes by told frames."""
    check_place(house, name, place)
    classes, method = house.classes, method_at(house.classes, name, place)
    goals = goals_in(method)
    check_told(classes, goals, told)
    table = dict(zip(goals, told))
    onward = [frame_ahead(name, method)]
    if 0 in table and not does_fit_one(classes, onward[0], table[0]):
        return False
    for step in range(len(method[3])):
        onward = frames_onward(classes, method, step, table.get(step, onward), table)
        if onward is None:
            return False
    return True


def told_frames(house, name, place):
    """The frames of checked at the steps that are jumped to, None if a road is wrong."""
    table = checked(house, name, place)
    if table is None:
        return None
    return tuple([table[step] for step in jumped_to(house, name, place)])


def greatest_height(house, name, place):
    """The greatest height of a frame of checked, or that a step makes of one, None if a road is wrong."""
    table = checked(house, name, place)
    if table is None:
        return None
    # What a step makes stands at the next step, too, but behind a give or a throw, which only take off.
    return max([len(frame[1]) for frames in table for frame in frames])
