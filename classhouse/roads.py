"""Roads through the steps of methods (point 19)."""

from classhouse.checks import check_place
from classhouse.errors import BadRoad
from classhouse.frames import frame_ahead, turns_of
from classhouse.lookup import method_at
from classhouse.words import is_alike


def frame_behind(turns, value):
    """The frame behind the turn that any value is, None if it is none of these turns."""
    for turn, frame in turns:
        if is_alike(value, turn):
            return frame
    return None


def followed(house, name, place, road):
    """How many things of a tuple are turns of a road, and the step and the frame to which these lead."""
    method = method_at(house.classes, name, place)
    step, frame = 0, frame_ahead(name, method)
    for many, value in enumerate(road):
        turns = turns_of(house.classes, method, step, frame)
        behind = None if turns is None else frame_behind(turns, value)
        if behind is None:
            return many, step, frame
        step, frame = value[0], behind
    return len(road), step, frame


def frame_by(house, name, place, road):
    """The pair (step, frame) to which a road leads."""
    check_place(house, name, place)
    if not isinstance(road, tuple):
        raise BadRoad(None)
    many, step, frame = followed(house, name, place, road)
    if many < len(road):
        raise BadRoad(many)
    return step, frame


def is_wrong_road(house, name, place, value):
    """Tells whether any value is a road at whose end the step goes wrong."""
    check_place(house, name, place)
    if not isinstance(value, tuple):
        return False
    many, step, frame = followed(house, name, place, value)
    if many < len(value):
        return False
    return turns_of(house.classes, method_at(house.classes, name, place), step, frame) is None


def has_news(met, step, frame):
    """Tells whether a kind has come to its place for the first time, at this step and height, and notes it."""
    cells, stack = frame
    spot = (step, len(stack))
    keys = [spot] + [(spot, index, kind) for index, kind in enumerate(cells + stack)]
    news = [key for key in keys if key not in met]
    for key in news:
        met[key] = True
    return bool(news)


def wrong_road(house, name, place):
    """The least of the shortest wrong roads of a method, None if there is none."""
    check_place(house, name, place)
    classes, method = house.classes, method_at(house.classes, name, place)
    met = {}
    queue = [((), 0, frame_ahead(name, method))]
    at = 0
    # Roads come shortest first, and of one length the least first. What a road goes wrong by, its height or the
    # kind of one place, was made by its turns alone, whatever the other places had: so a road with nothing new
    # goes wrong by nothing by which not one ahead of it does.
    while at < len(queue):
        road, step, frame = queue[at]
        at += 1
        if not has_news(met, step, frame):
            continue
        turns = turns_of(classes, method, step, frame)
        if turns is None:
            return road
        for turn, behind in turns:
            queue.append(((*road, turn), turn[0], behind))
    return None


def reached_steps(house, name, place):
    """The ascending tuple of the steps to which roads lead."""
    check_place(house, name, place)
    classes, method = house.classes, method_at(house.classes, name, place)
    met = {}
    todo = [(0, frame_ahead(name, method))]
    while todo:
        spot = todo.pop()
        if spot in met:
            continue
        met[spot] = True
        turns = turns_of(classes, method, spot[0], spot[1])
        if turns is not None:
            todo.extend([(turn[0], behind) for turn, behind in turns])
    return tuple(sorted({step for step, _ in met}))
