"""How often methods hold what they enter, along all roads (points 37 to 39)."""

from classhouse.checks import check_word
from classhouse.errors import NoMethod, NotPlain
from classhouse.lookup import nearest, nearest_method
from classhouse.steps import covers, goals_in, led_to
from classhouse.words import is_number, is_tuple

MOST_HELD = 6
NOTHING_HELD = (0, 0, 0, 0)


def method_seen(house, name, word):
    """The nearest method of a word that is seen in a class."""
    check_word(house, name, word)
    if nearest(house.classes, name, word) is None:
        raise NoMethod("no method of the word is seen")
    return nearest_method(house.classes, name, word)


def is_method_plain(method):
    """Tells whether each enter and leave of a method stands directly behind a take, and is no goal."""
    code, goals = method[3], goals_in(method)
    for index, step in enumerate(code):
        if step[0] in ("enter", "leave") and (index == 0 or code[index - 1][0] != "take" or index in goals):
            return False
    return True


def is_plain(house, name, word):
    """Tells whether each enter and leave of a method stands directly behind a take, and is no goal."""
    return is_method_plain(method_seen(house, name, word))


def plain_method(house, name, word):
    """The nearest method of a word, which must be plain."""
    method = method_seen(house, name, word)
    if not is_method_plain(method):
        raise NotPlain("an enter or a leave without its take")
    return method


def is_end(method, index):
    """Tells whether a step is a give, or a throw that no handler of the class "top" covers."""
    if method[3][index][0] != "throw":
        return method[3][index][0] == "give"
    return not any([covers(handler, index) and handler[2] == "top" for handler in method[4]])


def is_astray(method, index, holds):
    """Tells whether a road that comes to a step with these holds goes astray there."""
    step = method[3][index]
    if step[0] == "enter":
        return holds[method[3][index - 1][1]] == MOST_HELD
    if step[0] == "leave":
        return holds[method[3][index - 1][1]] == 0
    if step[0] == "keep":
        return holds[step[1]] != 0
    return is_end(method, index) and holds != NOTHING_HELD


def holds_onward(method, index, goal, holds):
    """The holds with which a road goes on from a step to another one."""
    word = method[3][index][0]
    if word not in ("enter", "leave") or goal != index + 1:
        return holds
    local = method[3][index - 1][1]
    many = holds[local] + 1 if word == "enter" else holds[local] - 1
    return (*holds[:local], many, *holds[local + 1:])


def spots_met(method):
    """The dict from each pair (step, holds) to which roads come to the one ahead of it on the least of the shortest.

    The pairs of shorter roads come first, and of roads of one length those of the lesser ones.
    """
    met = {(0, NOTHING_HELD): None}
    queue = [(0, NOTHING_HELD)]
    at = 0
    while at < len(queue):
        index, holds = queue[at]
        at += 1
        if is_astray(method, index, holds):
            continue
        for goal in led_to(method, index):
            spot = (goal, holds_onward(method, index, goal, holds))
            if spot not in met:
                met[spot] = (index, holds)
                queue.append(spot)
    return met


def road_to(met, spot):
    """The least of the shortest roads to a pair (step, holds)."""
    road = []
    while spot is not None:
        road.append(spot[0])
        spot = met[spot]
    return tuple(road[::-1])


def holds_at_steps(method):
    """The list, for each step, of the ascending list of the holds with which roads come to it."""
    table = [[] for _ in method[3]]
    for index, holds in sorted(spots_met(method)):
        table[index].append(holds)
    return table


def holds_met(house, name, word):
    """The tuple, for each step, of the ascending tuple of all holds with which roads come to it."""
    return tuple([tuple(found) for found in holds_at_steps(plain_method(house, name, word))])


def astray_road(house, name, word):
    """The least of the shortest roads that go astray, None if none does."""
    method = plain_method(house, name, word)
    met = spots_met(method)
    for spot in met:
        if is_astray(method, spot[0], spot[1]):
            return road_to(met, spot)
    return None


def shows_astray(house, name, word, value):
    """Tells whether any value is a road that goes astray at its last step, and nowhere ahead."""
    method = plain_method(house, name, word)
    if not isinstance(value, tuple) or not all([is_number(index, len(method[3]) - 1) for index in value]):
        return False
    if value[:1] != (0,):
        return False
    holds = NOTHING_HELD
    for index, goal in zip(value, value[1:]):
        if is_astray(method, index, holds) or goal not in led_to(method, index):
            return False
        holds = holds_onward(method, index, goal, holds)
    return is_astray(method, value[-1], holds)


def hold_table(house, name, word):
    """The tuple, for each step, of the holds with which roads come to it, None where none comes.

    None if a road goes astray, or roads come with unlike holds to one step.
    """
    method = plain_method(house, name, word)
    table = holds_at_steps(method)
    for index, found in enumerate(table):
        if len(found) > 1 or any([is_astray(method, index, holds) for holds in found]):
            return None
    return tuple([found[0] if found else None for found in table])


def are_holds(value):
    """Tells whether any value is holds."""
    return is_tuple(value, 4, 4) and all([is_number(many, MOST_HELD) for many in value])


def leads_right(method, table, index):
    """Tells whether the holds of a step of a table do not go astray, and go on to those of the steps led to."""
    holds = table[index]
    if is_astray(method, index, holds):
        return False
    return all([table[goal] == holds_onward(method, index, goal, holds) for goal in led_to(method, index)])


def shows_table(house, name, word, value):
    """Tells whether any value is a table of a method: holds or None for each step."""
    method = plain_method(house, name, word)
    if not is_tuple(value, len(method[3]), len(method[3])):
        return False
    if not all([holds is None or are_holds(holds) for holds in value]) or value[0] != NOTHING_HELD:
        return False
    return all([leads_right(method, value, index) for index, holds in enumerate(value) if holds is not None])


def to_ends(house, name, word):
    """The ascending tuple of the steps from which roads lead to an end."""
    method = plain_method(house, name, word)
    steps = range(len(method[3]))
    found = [index for index in steps if is_end(method, index)]
    many = 0
    while many < len(found):
        many = len(found)
        found = [index for index in steps if index in found or any([goal in found for goal in led_to(method, index)])]
    return tuple(found)
