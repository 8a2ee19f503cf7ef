"""Code: rows over registers, where they go on, and what is alive and made along them."""

from arrivalmill.codetext import CodeReader
from arrivalmill.errors import NoRoom, NoRow
from arrivalmill.flows import CALLS, LAST_CALLS, all_edges, registers_read
from arrivalmill.signs import is_count

# At these rows, and calls, rubbish may be cleared away, or something raises: no room goes on behind them.
ROOM_ENDS = ("room", "do", "guard", "fun", "own", "look", "wait", "return", "raise", "fail")


class Code:
    """Code: its text, and what this tells."""

    def __init__(self, text):
        reader = CodeReader(text)
        reader.read()
        self.text = text
        self.name = reader.name
        self.constants = tuple(reader.constants)
        self.entries = tuple(reader.entries)
        self.exports = tuple(reader.exports)
        self.rows = tuple(reader.rows)
        self.ops = tuple(reader.ops)
        self.places = reader.places
        # What was found of all rows is kept: who asks of one row most often asks of others.
        self.edges = None
        self.alive = None

    def __eq__(self, other):
        return isinstance(other, Code) and self.text == other.text

    def __len__(self):
        return len(self.rows)


def _want_row(code, number):
    if not is_count(number, 0) or number >= len(code.rows):
        raise NoRow(number)


def ways(code, number):
    """The numbers of all rows that can come next behind a row."""
    _want_row(code, number)
    found = {behind: True for _, behind in _edges_of(code)[number]}
    return tuple(sorted(list(found)))


def _edges_of(code):
    if code.edges is None:
        code.edges = all_edges(code)
    return code.edges


def live(code, number):
    """The registers that some way from ahead of a row on reads ahead of setting them, or leaving them behind."""
    _want_row(code, number)
    if code.alive is None:
        code.alive = _masks_alive(code)
    xs, ys = code.alive[number]
    return (*_names_in("x", xs), *_names_in("y", ys))


def _names_in(letter, mask):
    return [letter + str(number) for number in range(mask.bit_length()) if mask & (1 << number)]


def _masks_alive(code):
    """For each row what is alive ahead of it: the numbers of x, and of y, as bits of two integers."""
    ahead = _edges_of(code)
    rows_ahead = [[] for _ in code.ops]
    for number, found in enumerate(ahead):
        for _, behind in found:
            rows_ahead[behind].append(number)
    masks = [(0, 0) for _ in code.ops]
    waiting = list(range(len(code.ops)))
    while waiting:
        number = waiting.pop()
        told = _alive_ahead(code.ops[number], [(how, masks[behind]) for how, behind in ahead[number]])
        if told != masks[number]:
            masks[number] = told
            waiting.extend(rows_ahead[number])
    return masks


def _alive_ahead(op, behind):
    """What is alive ahead of a row, by what is alive behind each of its edges."""
    xs, ys = _mask_of("x", registers_read(op)), _mask_of("y", registers_read(op))
    for how, (xs_behind, ys_behind) in behind:
        xs = xs | (xs_behind & _x_kept(op, how, xs_behind))
        if op.word != "frame" and op.word != "unframe":
            ys = ys | (ys_behind ^ (ys_behind & _mask_of("y", _slots_set(op, how))))
    return (xs, ys)


def _mask_of(letter, registers):
    mask = 0
    for one, number in registers:
        if one == letter:
            mask = mask | (1 << number)
    return mask


def _slots_set(op, how):
    """What a row sets behind an edge, and the slots that clear and try leave behind."""
    if how != "next":
        return []
    if op.word == "clear" or op.word == "try":
        return [("y", number) for number in op.more]
    return [] if op.target is None else [op.target]


def _x_kept(op, how, mask):
    """Those of some x that an edge of a row neither sets nor leaves behind."""
    if how == "caught" or op.word in CALLS or op.word == "look" or op.word == "wait":
        return 0
    if op.word == "room":
        return mask & ((1 << op.more[1]) - 1)
    gone = 1 if op.word == "pass" else _mask_of("x", _slots_set(op, how))
    return mask ^ (mask & gone)


def words_wanted(code, number):
    """The greatest number of words that are made behind a room until it ends; None if there is none."""
    _want_row(code, number)
    if code.ops[number].word != "room":
        raise NoRoom(number)
    behind = _edges_of(code)
    # More than all rows make together is made only where some ring of rows makes words in each lap.
    limit = sum([_words_made(op) for op in code.ops])
    made = {}
    waiting = [(row, 0) for _, row in behind[number]]
    at = 0
    while at < len(waiting):
        row, words = waiting[at]
        at += 1
        words += _words_made(code.ops[row])
        if words > limit:
            return None
        if words > made.get(row, -1):
            made[row] = words
            if not _ends_room(code.ops[row].word):
                waiting.extend([(other, words) for _, other in behind[row]])
    return max([0, *[made[row] for row in made]])


def _ends_room(word):
    return word in CALLS or word in LAST_CALLS or word in ROOM_ENDS


def _words_made(op):
    if op.word == "cell":
        return 2
    return len(op.reads) + 1 if op.word == "tuple" else 0
