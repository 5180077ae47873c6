"""Deeds with tries and lasts: what they do, and the codes that do the same (point 36)."""

from classhouse.coders import Coder
from classhouse.deedforms import check_deeds, handlers_of, need_of
from classhouse.errors import BadIns, TooMany
from classhouse.houses import House
from classhouse.words import is_number, is_tuple

MOST_STEPS = 20
MOST_HANDLERS = 4

# The classes of a thing of each class, itself first.
LINES = {
    "egg": ("egg",),
    "red": ("red", "egg"),
    "box": ("box",),
}


class Doing:
    """What deeds have done so far: the numbers printed, and how often the more of each last was done."""

    def __init__(self, ins, lasts):
        self.ins = ins
        self.printed = []
        self.counts = [0] * lasts


def lasts_in(deeds):
    """How many lasts stand in deeds, at all depths."""
    return sum([lasts_in_deed(deed) for deed in deeds])


def lasts_in_deed(deed):
    """How many lasts a deed has, itself among them."""
    if deed[0] == "if":
        return lasts_in(deed[2]) + lasts_in(deed[3])
    if deed[0] == "try":
        return lasts_in(deed[1]) + lasts_in(deed[3])
    return 1 + lasts_in(deed[1]) if deed[0] == "last" else 0


def do_deeds(doing, deeds, lasts):
    """Does deeds, ahead of which so many lasts stand; returns the end, None if they come to their own."""
    for deed in deeds:
        end = do_deed(doing, deed, lasts)
        if end is not None:
            return end
        lasts += lasts_in_deed(deed)
    return None


def do_deed(doing, deed, lasts):
    """Does a deed, ahead of which so many lasts stand; returns the end, None if it comes to its own."""
    if deed[0] == "print":
        doing.printed.append(deed[1])
        return None
    if deed[0] == "throw":
        return "throws", deed[1]
    if deed[0] == "give":
        return "gives", deed[1]
    if deed[0] == "if":
        return do_choice(doing, deed, lasts)
    return do_try(doing, deed, lasts) if deed[0] == "try" else do_last(doing, deed, lasts)


def do_choice(doing, deed, lasts):
    """Does an if."""
    if doing.ins[deed[1] - 1] != 0:
        return do_deeds(doing, deed[2], lasts)
    return do_deeds(doing, deed[3], lasts + lasts_in(deed[2]))


def do_try(doing, deed, lasts):
    """Does a try."""
    end = do_deeds(doing, deed[1], lasts)
    if end is not None and end[0] == "throws" and deed[2] in LINES[end[1]]:
        return do_deeds(doing, deed[3], lasts + lasts_in(deed[1]))
    return end


def do_last(doing, deed, lasts):
    """Does a last."""
    end = do_deeds(doing, deed[1], lasts + 1)
    doing.counts[lasts] += 1
    # More has prints and ifs alone, so it always comes to its end.
    do_deeds(doing, deed[2], lasts)
    return end


def done(deeds, ins):
    """The pair of the end that deeds come to, None for their own, and of what they have done."""
    check_deeds(deeds)
    if not is_tuple(ins, 3, 3) or not all([is_number(value, 15) for value in ins]):
        raise BadIns("no three integers from 0 to 15")
    doing = Doing(ins, lasts_in(deeds))
    end = do_deeds(doing, deeds, 0)
    return end, doing


def deeds_end(deeds, ins):
    """The pair (end, prints) of what deeds do."""
    end, doing = done(deeds, ins)
    return ("gives", 0) if end is None else end, tuple(doing.printed)


def last_counts(deeds, ins):
    """The tuple, for each last, of how often its more is done."""
    doing = done(deeds, ins)[1]
    return tuple(doing.counts)


def steps_needed(deeds):
    """How many steps the code of deeds needs."""
    check_deeds(deeds)
    return 2 + need_of(deeds, 0)


def lay_deeds(coder, deeds, mores):
    """Lays the code of deeds; mores are those of the lasts in whose deeds they stand, the innermost first."""
    for deed in deeds:
        lay_deed(coder, deed, mores)


def lay_deed(coder, deed, mores):
    """Lays the code of a deed."""
    if deed[0] == "print":
        coder.code.extend([("push", deed[1]), ("print",)])
    elif deed[0] == "throw":
        coder.code.extend([("new", deed[1]), ("throw",)])
    elif deed[0] == "give":
        for more in mores:
            lay_deeds(coder, more, ())
        coder.code.extend([("push", deed[1]), ("give",)])
    elif deed[0] == "if":
        lay_choice(coder, deed, mores)
    elif deed[0] == "try":
        lay_try(coder, deed, mores)
    else:
        lay_last(coder, deed, mores)


def lay_choice(coder, deed, mores):
    """Lays the code of an if."""
    coder.code.append(("take", deed[1]))
    choice = coder.lay_gap()
    lay_deeds(coder, deed[3], mores)
    onward = coder.lay_gap()
    coder.fill(choice, "if")
    lay_deeds(coder, deed[2], mores)
    coder.fill(onward, "go")


def lay_try(coder, deed, mores):
    """Lays the code of a try, nothing if nothing is tried."""
    begin = coder.here()
    lay_deeds(coder, deed[1], mores)
    end = coder.here()
    if begin == end:
        return
    onward = coder.lay_gap()
    coder.rows.append((begin, end, deed[2], coder.here()))
    coder.code.append(("drop",))
    lay_deeds(coder, deed[3], mores)
    coder.fill(onward, "go")


def lay_last(coder, deed, mores):
    """Lays the code of a last: its more stands where its deeds go on, and where a thing thrown in them does."""
    begin = coder.here()
    lay_deeds(coder, deed[1], (deed[2], *mores))
    end = coder.here()
    lay_deeds(coder, deed[2], ())
    if begin == end:
        return
    onward = coder.lay_gap()
    coder.rows.append((begin, end, "top", coder.here()))
    lay_deeds(coder, deed[2], ())
    coder.code.append(("throw",))
    coder.fill(onward, "go")


def deeds_house(deeds):
    """A house whose method main of the class hub does what deeds do."""
    if steps_needed(deeds) > MOST_STEPS:
        raise TooMany(MOST_STEPS)
    if handlers_of(deeds) > MOST_HANDLERS:
        raise TooMany(MOST_HANDLERS)
    coder = Coder(False)
    lay_deeds(coder, deeds, ())
    coder.code.extend([("push", 0), ("give",)])
    method = ("main", ("num", "num", "num"), "num", tuple(coder.code), tuple(coder.rows))
    shells = (("egg", "top", (), ()), ("red", "egg", (), ()), ("box", "top", (), ()))
    return House((*shells, ("hub", "top", (), (method,))))
