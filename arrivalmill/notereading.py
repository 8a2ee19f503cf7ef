"""Notes that are handed in: which values are notes, and what they tell."""

from arrivalmill.notes import REGISTERS, Note
from arrivalmill.sameness import is_same
from arrivalmill.signs import is_count


def note_of(code, value):
    """The Note of any value; None if it is none."""
    if not isinstance(value, tuple) or len(value) != 7:
        return None
    numbers, frame, full, kinds, tries, hand, room = value
    if not is_count(room, 0) or not _is_frame(frame) or not _is_hand(code, hand):
        return None
    slots = 0 if frame is None else frame
    xs, ys = _mask_of(numbers, REGISTERS), _mask_of(full, slots)
    if xs is None or ys is None or not _are_tries(code, tries, slots, ys):
        return None
    found = _kinds_of(kinds, xs, ys)
    return None if found is None else Note(xs, frame, ys, found, tries, hand, room)


def _is_frame(value):
    return value is None or (is_count(value, 0) and value < REGISTERS)


def _is_hand(code, value):
    return value is None or (is_count(value, 0) and value < len(code.ops) and code.ops[value].word == "look")


def _mask_of(value, limit):
    """The bits of an ascending tuple of numbers below a limit; None if it is none."""
    if not isinstance(value, tuple):
        return None
    mask, least = 0, 0
    for number in value:
        if not is_count(number, least) or number >= limit:
            return None
        mask = mask | (1 << number)
        least = number + 1
    return mask


def _are_tries(code, value, slots, full):
    """Whether any value are tries in slots that are there, unlike ones, and not full."""
    if not isinstance(value, tuple):
        return False
    for row in value:
        if not isinstance(row, tuple) or len(row) != 2 or not is_count(row[0], 0) or not is_count(row[1], 0):
            return False
        if row[0] >= slots or full & (1 << row[0]) or row[1] not in code.places:
            return False
        full = full | (1 << row[0])
    return True


def _kinds_of(value, xs, ys):
    """Kinds by register, of an ascending tuple of those that are set; None if it is none."""
    if not isinstance(value, tuple):
        return None
    kinds = {}
    ahead = ("w", 0)
    for row in value:
        if not isinstance(row, tuple) or len(row) != 2 or not _is_kind(row[1]):
            return None
        place = _register_of(row[0], xs, ys)
        if place is None or not ahead < place:
            return None
        kinds[place] = row[1]
        ahead = place
    return kinds


def _register_of(value, xs, ys):
    """The (letter, number) of the name of a register that is set; None if it is none."""
    if not isinstance(value, str) or not value.isascii() or not value[1:].isdigit():
        return None
    letter, number = value[0], int(value[1:])
    if letter not in "xy" or letter + str(number) != value or number >= REGISTERS:
        return None
    return (letter, number) if (xs if letter == "x" else ys) & (1 << number) else None


def _is_kind(value):
    if not isinstance(value, tuple):
        return is_same("cell", value)
    return len(value) == 2 and is_same("tuple", value[0]) and is_count(value[1], 0)
