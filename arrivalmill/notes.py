"""Notes: what is sure when a row of code is come to, what rows want of it, and what they make of it.

Sets of registers are kept as the bits of integers: bit 3 of xs stands for x3.
"""

from arrivalmill.flows import (
    CALLS, LAST_CALLS, edges, handler_of, has_next, led_to, registers_read, tries_behind,
)
from arrivalmill.rowforms import is_deed
from arrivalmill.shapes import has_rest, is_kind

# What these rows want beside calls, and where beside calls no room goes on.
FULL_WANTED = ("do", "guard", "fun", "own", "room", "look", "pass", "wait")
NO_FRAME_WANTED = ("return", "frame")
NO_HAND_WANTED = ("return", "look", "wait")
ROOM_ENDED = ("do", "guard", "fun", "own", "look", "wait")
REGISTERS = 1000
TAKING_PARTS = ("head", "tail", "part")


class Note:
    """What is sure: the x that are set, the frame, its full slots, kinds by register, tries, hand, and room."""

    def __init__(self, xs, frame, ys, kinds, tries, hand, room):
        self.xs = xs
        self.frame = frame
        self.ys = ys
        self.kinds = kinds
        self.tries = tries
        self.hand = hand
        self.room = room

    def shown(self):
        """The note as a tuple."""
        kinds = tuple([(letter + str(number), self.kinds[(letter, number)]) for letter, number in sorted(self.kinds)])
        return (numbers_of(self.xs), self.frame, numbers_of(self.ys), kinds, self.tries, self.hand, self.room)


def first_note(many):
    """The note of a beginning with so many arguments."""
    return Note((1 << min(many, REGISTERS)) - 1, None, 0, {}, (), None, 0)


def numbers_of(mask):
    """The numbers of the bits that are set."""
    return tuple([number for number in range(mask.bit_length()) if mask & (1 << number)])


def is_alike(one, other):
    """Whether two notes have the same frame, tries and hand."""
    return (one.frame, one.tries, one.hand) == (other.frame, other.tries, other.hand)


def what_both_tell(one, other):
    """What two notes tell that have the same frame, tries and hand."""
    kinds = {}
    for place in one.kinds:
        if place in other.kinds:
            kind = _kind_of_both(one.kinds[place], other.kinds[place])
            if kind is not None:
                kinds[place] = kind
    room = min(one.room, other.room)
    return Note(one.xs & other.xs, one.frame, one.ys & other.ys, kinds, one.tries, one.hand, room)


def _kind_of_both(one, other):
    if one == "cell" or other == "cell":
        return one if one == other else None
    return ("tuple", min(one[1], other[1]))


def tells_no_more(one, other):
    """Whether a note tells no more than another one, frame, tries and hand being the same."""
    if not is_alike(one, other) or one.room > other.room:
        return False
    if one.xs & other.xs != one.xs or one.ys & other.ys != one.ys:
        return False
    for place in one.kinds:
        if place not in other.kinds or _kind_of_both(one.kinds[place], other.kinds[place]) != one.kinds[place]:
            return False
    return True


def are_wants_met(code, number, note):
    """Whether all that a row wants is so by a note."""
    op = code.ops[number]
    if has_next(op) and number + 1 >= len(code.ops):
        return False
    for letter, place in registers_read(op):
        mask = note.xs if letter == "x" else note.ys
        if not mask & (1 << place):
            return False
    if not _may_set(op, note) or not _is_frame_right(op, note) or not _has_room(op, note):
        return False
    return _is_hand_right(code, number, note) and _has_known_parts(code, op, note)


def _tries_slots(note):
    """The slots that are tries', as bits."""
    mask = 0
    for slot, _ in note.tries:
        mask = mask | (1 << slot)
    return mask


def _may_set(op, note):
    """Whether all slots that are set or taken are there, and no try's; and whether parts are there."""
    slots = list(op.more) if op.word == "clear" else [op.more[0]] if op.word == "try" else []
    if op.target is not None and op.target[0] == "y":
        slots.append(op.target[1])
    for slot in slots:
        if note.frame is None or slot >= note.frame or _tries_slots(note) & (1 << slot):
            return False
    return True


def _is_frame_right(op, note):
    if note.frame is not None and (op.word in CALLS or op.word in FULL_WANTED):
        if note.ys | _tries_slots(note) != (1 << note.frame) - 1:
            return False
    if note.frame is not None and (op.word in LAST_CALLS or op.word in NO_FRAME_WANTED):
        return False
    if op.word == "unframe" and (note.frame is None or note.tries):
        return False
    return op.word != "untry" or (len(note.tries) > 0 and note.tries[-1][0] == op.more[0])


def _is_hand_right(code, number, note):
    op = code.ops[number]
    if op.word == "take" or op.word == "pass":
        if note.hand is None:
            return False
        return op.word == "take" or led_to(code, op.labels[0]) == note.hand
    if note.hand is not None and _wants_no_hand(op):
        return False
    if op.word == "look" or op.word == "wait":
        return _stands_by(code, number)
    return True


def _wants_no_hand(op):
    if op.word == "do":
        return is_deed(op.more[0], len(op.reads))
    return op.word in CALLS or op.word in LAST_CALLS or op.word in NO_HAND_WANTED


def _stands_by(code, number):
    """Whether a look and a wait lead to one another."""
    op = code.ops[number]
    other = led_to(code, op.labels[0])
    if other is None or code.ops[other].word != ("wait" if op.word == "look" else "look"):
        return False
    return led_to(code, code.ops[other].labels[0]) == number


def _has_room(op, note):
    if op.word == "room":
        kept = (1 << op.more[1]) - 1
        return note.xs & kept == kept
    return _words_of(op) <= note.room


def _words_of(op):
    """How many words a row makes out of the room."""
    if op.word == "cell":
        return 2
    return len(op.reads) + 1 if op.word == "tuple" else 0


def _has_known_parts(code, op, note):
    """Whether what a row takes parts of is known to have them."""
    if op.word not in TAKING_PARTS:
        return True
    kind = _kind_known(code, op.reads[0], note)
    if op.word != "part":
        return kind == "cell"
    return isinstance(kind, tuple) and kind[1] > op.more[0]


def _kind_known(code, source, note):
    """The kind that a source surely has: "cell", ("tuple", parts) or None."""
    letter, number = source
    if letter != "c":
        return note.kinds.get(source)
    term = code.constants[number]
    if is_kind(term, "tuple"):
        return ("tuple", len(term) - 1)
    return "cell" if has_rest(term, 1) else None


def made(code, number, note):
    """The notes that a row makes: pairs of (row that can come next, note); what two edges to one row tell is one."""
    found = []
    for how, behind in edges(code, number, handler_of(note.tries)):
        told = _made_along(code, number, note, how)
        alike = [at for at, (row, other) in enumerate(found) if row == behind and is_alike(other, told)]
        if alike:
            found[alike[0]] = (behind, what_both_tell(found[alike[0]][1], told))
        else:
            found.append((behind, told))
    return found


def _made_along(code, number, note, how):
    """The note that a row makes along one edge."""
    op = code.ops[number]
    tries = tries_behind(op, note.tries, how)
    if how == "caught":
        return Note(3, note.frame, note.ys, _kinds_within(note.kinds, 0, note.ys), tries, None, 0)
    xs = _xs_behind(op, note.xs, how)
    frame, ys = _slots_behind(op, note)
    kinds = _kinds_within(note.kinds, 0 if op.word in CALLS or op.word == "look" else xs, ys)
    if how == "next":
        xs, ys, kinds = _with_sets(code, op, note, xs, ys, kinds)
    return Note(xs, frame, ys, kinds, tries, _hand_behind(op, number, note.hand, how), _room_behind(op, note.room))


def _kinds_within(kinds, xs, ys):
    """Those kinds whose registers are set."""
    return {place: kinds[place] for place in kinds if (xs if place[0] == "x" else ys) & (1 << place[1])}


def _xs_behind(op, xs, how):
    """The x that are set behind an edge, but for what the row sets."""
    if op.word in CALLS:
        return 1
    if op.word == "look":
        return 1 if how == "next" else 0
    if op.word == "wait":
        return 0
    if op.word == "room":
        return xs & ((1 << op.more[1]) - 1)
    return xs & (xs ^ 1) if op.word == "pass" else xs


def _slots_behind(op, note):
    """The frame, and its full slots, behind a row, but for what it sets."""
    if op.word == "frame":
        return op.more[0], 0
    if op.word == "unframe":
        return None, 0
    if op.word == "try":
        return note.frame, note.ys ^ (note.ys & (1 << op.more[0]))
    return note.frame, note.ys


def _with_sets(code, op, note, xs, ys, kinds):
    """What is set, full and known at the next row, with what a row sets and its test tells."""
    kinds = {place: kinds[place] for place in kinds}
    if op.word == "test" and op.more[0] == "cell":
        kinds[op.reads[0]] = "cell"
    elif op.word == "size":
        kinds[op.reads[0]] = ("tuple", op.more[0])
    targets = [("y", slot) for slot in op.more] if op.word == "clear" else [] if op.target is None else [op.target]
    for target in targets:
        kinds.pop(target, None)
        if target[0] == "x":
            xs = xs | (1 << target[1])
        else:
            ys = ys | (1 << target[1])
    kind = _kind_made(code, op, note)
    if kind is not None:
        kinds[op.target] = kind
    return xs, ys, {place: kinds[place] for place in kinds if place[0] != "c"}


def _kind_made(code, op, note):
    """The kind of what a row sets."""
    if op.word == "cell":
        return "cell"
    if op.word == "tuple":
        return ("tuple", len(op.reads))
    return _kind_known(code, op.reads[0], note) if op.word == "move" else None


def _room_behind(op, room):
    if op.word == "room":
        return op.more[0]
    return 0 if op.word in CALLS or op.word in ROOM_ENDED else room - _words_of(op)


def _hand_behind(op, number, hand, how):
    if op.word == "look":
        return number if how == "next" else None
    return None if op.word in ("take", "pass", "wait") else hand
