"""Two hands that enter and leave things, turn by turn (point 40)."""

from classhouse.errors import BadHands, BadTurns
from classhouse.words import is_number, is_tuple

MOST_ACTS = 8
LAST_THING = 3


def is_act(value):
    """Tells whether any value is an act."""
    return is_tuple(value, 2, 2) and value[0] in ("enter", "leave") and is_number(value[1], LAST_THING)


def check_hands(hands):
    """Raises BadHands unless any value is a pair of hands."""
    if not is_tuple(hands, 2, 2):
        raise BadHands(None, None)
    for hand, acts in enumerate(hands):
        if not is_tuple(acts, 0, MOST_ACTS):
            raise BadHands(hand, None)
        for place, act in enumerate(acts):
            if not is_act(act):
                raise BadHands(hand, place)


def many_held(acts, thing):
    """How often a hand holds a thing behind these acts."""
    return acts.count(("enter", thing)) - acts.count(("leave", thing))


def wait_of(hands, done, hand):
    """What a hand waits for when each hand has done so many acts, None if it can act, or has done all."""
    if done[hand] == len(hands[hand]):
        return None
    word, thing = hands[hand][done[hand]]
    if word == "leave":
        return None if many_held(hands[hand][:done[hand]], thing) > 0 else ("not", thing)
    other = 1 - hand
    return ("held", thing) if many_held(hands[other][:done[other]], thing) > 0 else None


def can_act(hands, done, hand):
    """Tells whether a hand has a next act, and can do it."""
    return done[hand] < len(hands[hand]) and wait_of(hands, done, hand) is None


def behind_turn(done, hand):
    """How many acts each hand has done when one hand has done one more."""
    return (done[0] + 1, done[1]) if hand == 0 else (done[0], done[1] + 1)


def turns_met(hands):
    """The dict from each pair of how many acts are done to the least turns to it, and how many lead there.

    All turns to one pair are of one length; the pairs come in the order of their least turns, the shorter ahead.
    """
    met = {(0, 0): ((), 1)}
    queue = [(0, 0)]
    at = 0
    while at < len(queue):
        done = queue[at]
        at += 1
        turns, many = met[done]
        for hand in (0, 1):
            if not can_act(hands, done, hand):
                continue
            after = behind_turn(done, hand)
            if after in met:
                met[after] = (met[after][0], met[after][1] + many)
            else:
                met[after] = ((*turns, hand), many)
                queue.append(after)
    return met


def count_turns(hands):
    """How many turns there are behind which both hands have done all acts."""
    check_hands(hands)
    met = turns_met(hands)
    all_done = (len(hands[0]), len(hands[1]))
    return met[all_done][1] if all_done in met else 0


def stuck_turns(hands):
    """The least of the shortest turns behind which no hand can act, though not both have done all, None without any."""
    check_hands(hands)
    for done, (turns, _) in turns_met(hands).items():
        if done != (len(hands[0]), len(hands[1])) and not can_act(hands, done, 0) and not can_act(hands, done, 1):
            return turns
    return None


def done_by(hands, turns):
    """How many acts each hand has done behind any value of turns, BadTurns if it is none."""
    if not isinstance(turns, tuple):
        raise BadTurns(None)
    done = (0, 0)
    for index, hand in enumerate(turns):
        if not is_number(hand, 1) or not can_act(hands, done, hand):
            raise BadTurns(index)
        done = behind_turn(done, hand)
    return done


def waits(hands, turns):
    """The pair of what each hand waits for behind turns."""
    check_hands(hands)
    done = done_by(hands, turns)
    return wait_of(hands, done, 0), wait_of(hands, done, 1)


def entered_while_held(acts):
    """The list of the pairs of a thing that a hand by itself holds, and another one that it enters anew then."""
    held = [0] * (LAST_THING + 1)
    pairs = []
    for word, thing in acts:
        if word == "leave":
            held[thing] = max(0, held[thing] - 1)
            continue
        if held[thing] == 0:
            pairs.extend([(one, thing) for one, many in enumerate(held) if many > 0])
        held[thing] += 1
    return pairs


def crossing(hands):
    """The least pair of things that the hands enter crosswise, None if there is none."""
    check_hands(hands)
    others = entered_while_held(hands[1])
    pairs = [(one, other) for one, other in entered_while_held(hands[0]) if (other, one) in others]
    return min(pairs, default=None)
