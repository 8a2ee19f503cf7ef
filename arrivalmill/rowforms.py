"""Rows of code: of which words each is made, and what these tell.

The words behind a row's first one are told by letters: T a label that begins here, L a label that is named, S a source,
D a target, C a constant, Y a slot, N a number, A a number of arguments up to 9, F an atom, K a kind, B a built-in
function, W and V reasons without and with a term. A form has those that stand once, and those that come any often.
"""

from arrivalmill.signs import atom_text, is_atom
from arrivalmill.tables import is_built, is_sign, looks

KIND_WORDS = ("integer", "atom", "boolean", "bytes", "nil", "cell", "tuple", "map", "pid", "reference", "fun")
BARE_REASONS = ("function_clause", "if_clause", "timeout_value")
TERM_REASONS = ("badmatch", "case_clause", "try_clause", "badarg", "bad_filter", "bad_generator")
LABEL_FIGURES = 6
FIGURES = 3

FORMS = {
    "label": (("T", ""),), "jump": (("L", ""),), "move": (("SD", ""),), "test": (("KLS", ""),),
    "size": (("LSN", ""),), "takes": (("LSN", ""),), "same": (("LSS", ""),), "unlike": (("LSS", ""),),
    "less": (("LSS", ""),), "atmost": (("LSS", ""),), "pick": (("LSCL", "CL"),), "part": (("SND", ""),),
    "head": (("SD", ""),), "tail": (("SD", ""),), "key": (("LSSD", ""),), "room": (("NN", ""),),
    "cell": (("SSD", ""),), "tuple": (("D", "S"),), "do": (("BD", "S"),), "guard": (("BLD", "S"),),
    "fun": (("NLAD", "S"),), "own": (("DFA", ""),), "frame": (("N", ""),), "unframe": (("", ""),),
    "clear": (("", "Y"),), "call": (("LN", ""),), "outer": (("N", ""),), "apply": (("N", ""),),
    "spread": (("", ""),), "outspread": (("", ""),), "last": (("LN", ""),), "outlast": (("N", ""),),
    "applast": (("N", ""),), "spreadlast": (("", ""),), "outspreadlast": (("", ""),), "return": (("", ""),),
    "try": (("YL", ""),), "untry": (("Y", ""),), "raise": (("SS", ""),), "fail": (("W", ""), ("VS", "")),
    "look": (("L", ""),), "take": (("", ""),), "pass": (("L", ""),), "wait": (("L", ""), ("LS", "")),
}


class Op:
    """A row as it is gone through: its first word, and what the others tell, each kind in sequence.

    reads and target are pairs of a letter, x, y or c, and a number; labels are those that it names; more is all else.
    """

    def __init__(self, word):
        self.word = word
        self.labels = ()
        self.reads = ()
        self.target = None
        self.more = ()


def read_row(words):
    """The row of these words, and its Op; None if they are none."""
    if words[0] not in FORMS:
        return None
    for once, often in FORMS[words[0]]:
        letters = _letters_for(once, often, len(words) - 1)
        told = None if letters is None else _told(words, letters)
        if told is not None:
            return told
    return None


def _letters_for(once, often, many):
    """The letters of so many words; None if there cannot be so many."""
    further = many - len(once)
    if further < 0 or (further > 0 and not often):
        return None
    if not often:
        return once
    return once + often * (further // len(often)) if further - further // len(often) * len(often) == 0 else None


def _told(words, letters):
    op = Op(words[0])
    row = [words[0]]
    for word, letter in zip(words[1:], letters):
        read = READERS[letter]
        value = read(word)
        if value is None:
            return None
        row.append(value if isinstance(value, int) and letter not in "CY" else word)
        _note(op, letter, value)
    if op.word in ("do", "guard") and not _can_do(op):
        return None
    return (tuple(row), op)


def _note(op, letter, value):
    if letter == "L":
        op.labels = (*op.labels, value)
    elif letter == "S":
        op.reads = (*op.reads, value)
    elif letter == "D":
        op.target = value
    else:
        op.more = (*op.more, value)


def _can_do(op):
    """Whether what is done takes so many terms; a guard does no deed."""
    name, many = op.more[0], len(op.reads)
    if name == "map" or name == "may" or name == "must":
        rows = many if name == "map" else many - 1
        return rows >= 0 and rows // 2 * 2 == rows
    if op.word == "guard" and is_deed(name, many):
        return False
    return is_deed(name, many) or is_sign(name, many) or (name != "apply" and is_built(name, many))


def is_deed(name, many):
    """Whether a function of so many terms does a look."""
    return looks(name, many) or (name == "!" and many == 2)


def read_number(text, figures):
    """The number that a word of so many figures at most writes; None if it writes none."""
    if not text.isdigit() or not text.isascii() or len(text) > figures or (len(text) > 1 and text[0] == "0"):
        return None
    return int(text)


def read_atom(text):
    """The atom that a word is as texts of terms write it; None if it is none."""
    atom = text[1:-1] if text.startswith("'") else text
    return atom if is_atom(atom) and atom_text(atom) == text else None


def _label(text):
    return read_number(text, LABEL_FIGURES)


def _number(text):
    return read_number(text, FIGURES)


def _size(text):
    return read_number(text, 1)


def _place(text, letters):
    """A letter and a number."""
    number = read_number(text[1:], FIGURES)
    return (text[0], number) if number is not None and text[0] in letters else None


def _source(text):
    return _place(text, "xyc")


def _target(text):
    return _place(text, "xy")


def _slot(text):
    return read_number(text[1:], FIGURES) if text.startswith("y") else None


def _constant(text):
    return read_number(text[1:], FIGURES) if text.startswith("c") else None


def _word_of(text, words):
    return text if text in words else None


def _kind(text):
    return _word_of(text, KIND_WORDS)


def _bare_reason(text):
    return _word_of(text, BARE_REASONS)


def _term_reason(text):
    return _word_of(text, TERM_REASONS)


def _any_word(text):
    return text


READERS = {
    "T": _label, "L": _label, "S": _source, "D": _target, "C": _constant, "Y": _slot, "N": _number, "A": _size,
    "F": read_atom, "K": _kind, "B": _any_word, "W": _bare_reason, "V": _term_reason,
}
