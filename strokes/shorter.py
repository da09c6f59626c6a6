"""Codes made shorter."""

from strokes.codes import LAST, LEADING, check_code, code
from strokes.presses import Press, is_leading, told_anew


def shorter(value):
    """Return a code made shorter."""
    check_code(value)
    return made_shorter(value)


def short_code(text):
    """Return the code of a good program, made shorter."""
    return made_shorter(code(text))


def is_short(value):
    """Return whether a code cannot be made shorter."""
    return shorter(value) == value


def dead_orders(value):
    """Return the ascending list of the places of a code that cannot be reached."""
    check_code(value)
    reached = reached_places(value)
    return [place for place in range(len(value)) if place not in reached]


def made_shorter(value):
    """Return a code, which may be one of a long program, made shorter until nothing changes."""
    changed = changed_once(value)
    while changed != value:
        value = changed
        changed = changed_once(value)
    return value


def changed_once(value):
    """Return a code with each change done all over it."""
    return without_dead(led_on(Press(value).pressed()))


def led_on(value):
    """Return a code whose jumps, zeros and somes to jumps lead on to where those lead in the end."""
    ends = ends_of_jumps(value)
    found = []
    for word, number in value:
        if word in LEADING and ends.get(number) is not None:
            found.append((word, ends[number]))
        else:
            found.append((word, number))
    return tuple(found)


def ends_of_jumps(value):
    """Return a dict of where each jump's place leads in the end, None for those that lead round and round."""
    ends = {}
    for place in range(len(value)):
        passed = []
        at = place
        while value[at][0] == "jump" and at not in ends:
            # Who comes here again ahead of an end goes round.
            ends[at] = None
            passed.append(at)
            at = value[at][1]
        end = ends.get(at, at)
        for before in passed:
            ends[before] = end
    return ends


def without_dead(value):
    """Return a code without the orders that cannot be reached."""
    reached = reached_places(value)
    kept = []
    moved = []
    for place, order in enumerate(value):
        moved.append(len(kept))
        if place in reached:
            kept.append(order)
    return told_anew(kept, moved)


def reached_places(value):
    """Return a dict of the places of a code that can be reached."""
    reached = {0: True}
    waiting = [0]
    while waiting:
        place = waiting.pop()
        for behind in places_behind(value, place):
            if behind not in reached:
                reached[behind] = True
                waiting.append(behind)
    return reached


def places_behind(value, place):
    """Return the list of the places to which the order at a place may lead."""
    word, number = value[place]
    found = []
    if is_leading(word):
        found.append(number)
    if word not in LAST:
        found.append(place + 1)
    return found
