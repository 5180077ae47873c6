"""Passes that mend codes without a change of what their runs come to (points 47 and 48)."""

from classhouse.checks import check_place
from classhouse.errors import BadPass
from classhouse.houses import House
from classhouse.lookup import method_at
from classhouse.steps import covers, goals_in, led_to

# The first steps of the pairs that are left out.
LAYING = ("push", "none", "take", "copy")


def class_with(row, place, method):
    """A class in which another method stands at a place."""
    name, upper, fields, methods = row
    return name, upper, fields, methods[:place] + (method,) + methods[place + 1:]


def house_with(house, name, place, method):
    """The house in which another method stands at a place of a class."""
    return House(tuple([class_with(row, place, method) if row[0] == name else row for row in house.classes]))


def with_code(house, name, place, code, handlers):
    """The house in which a method has this code and these handlers."""
    check_place(house, name, place)
    method = method_at(house.classes, name, place)
    return house_with(house, name, place, (*method[:3], code, handlers))


def step_with(step, goals):
    """A step whose goal, if it has one, is told anew by the list of the new goals for all old ones."""
    return (step[0], goals[step[1]]) if step[0] in ("go", "if") else step


def past_gos(code, goal):
    """The step to which one comes from a goal through gos, the goal itself if these come to a step again."""
    met = []
    step = goal
    while code[step][0] == "go":
        if step in met:
            return goal
        met.append(step)
        step = code[step][1]
    return step


def without_jumps(method):
    """The method behind the pass "jumps"."""
    word, ins, out, code, handlers = method
    goals = [past_gos(code, goal) for goal in range(len(code))]
    rows = [(begin, end, name, goals[goal]) for begin, end, name, goal in handlers]
    return word, ins, out, tuple([step_with(step, goals) for step in code]), tuple(rows)


def left_without(method, kept):
    """The method of whose code just the steps of an ascending list are kept.

    A goal that is left out becomes the next step behind it that is kept.
    """
    word, ins, out, code, handlers = method
    # For each step, and for the end of the code, how many steps ahead of it are kept.
    ahead = [len([step for step in kept if step < goal]) for goal in range(len(code) + 1)]
    rows = [(ahead[begin], ahead[end], name, ahead[goal]) for begin, end, name, goal in handlers]
    steps = [step_with(code[step], ahead) for step in kept]
    return word, ins, out, tuple(steps), tuple([row for row in rows if row[0] < row[1]])


def within_reach(method):
    """The method behind the pass "reach"."""
    met = {}
    todo = [0]
    while todo:
        step = todo.pop()
        if step not in met:
            met[step] = True
            todo.extend(led_to(method, step))
    return left_without(method, sorted(met))


def is_whole(method, begin, many):
    """Tells whether of so many steps but the first none is jumped to, and each handler covers all of them or none."""
    goals = goals_in(method)
    steps = list(range(begin, begin + many))
    if any([step in goals for step in steps[1:]]):
        return False
    return all([len([step for step in steps if covers(row, step)]) in (0, many) for row in method[4]])


def number_laid(code, begin):
    """The number that two pushes, and an add or a less behind them, lay from a step on, None if others stand there."""
    words = [step[0] for step in code[begin:begin + 3]]
    if words not in (["push", "push", "add"], ["push", "push", "less"]):
        return None
    one, other = code[begin][1], code[begin + 1][1]
    if words[2] == "add":
        return (one + other) % 16
    return 1 if one < other else 0


def first_number(method):
    """The first of the first three steps that are one push, None if there are none."""
    for begin in range(len(method[3])):
        if number_laid(method[3], begin) is not None and is_whole(method, begin, 3):
            return begin
    return None


def with_numbers(method):
    """The method behind the pass "numbers"."""
    begin = first_number(method)
    while begin is not None:
        word, ins, out, code, handlers = method
        push = ("push", number_laid(code, begin))
        kept = [step for step in range(len(code)) if step not in (begin + 1, begin + 2)]
        method = left_without((word, ins, out, code[:begin] + (push,) + code[begin + 1:], handlers), kept)
        begin = first_number(method)
    return method


def first_pair(method):
    """The first of the first two steps that are left out, None if there are none."""
    code = method[3]
    # The last step is never one that lays alone.
    for begin in range(len(code) - 1):
        if code[begin][0] in LAYING and code[begin + 1][0] == "drop" and is_whole(method, begin, 2):
            return begin
    return None


def without_pairs(method):
    """The method behind the pass "pairs"."""
    begin = first_pair(method)
    while begin is not None:
        method = left_without(method, [step for step in range(len(method[3])) if step not in (begin, begin + 1)])
        begin = first_pair(method)
    return method


# The passes in the order in which they are done in turn.
PASSES = {
    "jumps": without_jumps,
    "reach": within_reach,
    "numbers": with_numbers,
    "pairs": without_pairs,
}


def passed(house, name, place, word):
    """The house behind the pass of a word over a method."""
    check_place(house, name, place)
    if not isinstance(word, str) or word not in PASSES:
        raise BadPass("no pass")
    mend = PASSES[word]
    return house_with(house, name, place, mend(method_at(house.classes, name, place)))


def cleaned(house, name, place):
    """The house behind all passes over a method in turn, again and again, until they change nothing."""
    check_place(house, name, place)
    method = method_at(house.classes, name, place)
    ahead = None
    while method != ahead:
        ahead = method
        for word in PASSES:
            mend = PASSES[word]
            method = mend(method)
    return house_with(house, name, place, method)
