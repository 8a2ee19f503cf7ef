"""The words of texts of modules and expressions."""

from arrivalmill.signs import FIGURES, GREAT, KEYED, LONGEST_WORD, SMALL, WORD_SIGNS, is_atom

# Kinds of words in capitals; each keyed word, and each sign, is a kind of its own.
NUMBER = "NUMBER"
ATOM = "ATOM"
NAME = "NAME"
STRING = "STRING"
ANY = "ANY"
STOP = "STOP"
BAD = "BAD"
OVER = "OVER"

SIGNS = (
    "=:=", "=/=",
    "||", "->", "<-", "=>", ":=", "==", "/=", "=<", ">=", "++", "--", "<<", ">>",
    "(", ")", "[", "]", "{", "}", ",", ";", ":", "|", "=", "!", "+", "-", "*", "/", "<", ">", "#",
)
FIGURES_OF_BASES = "0123456789abcdefghijklmnopqrstuvwxyz"
NUMBER_ESCAPES = {"n": 10, "t": 9, "s": 32, "\\": 92}
STRING_ESCAPES = {"n": 10, "t": 9, "\"": 34, "\\": 92}
WRONG = ("BAD", None, 1)


def words_of(text):
    """The words of a text, each (kind, worth, line, column), the first bad one the last; behind them its end."""
    words = []
    at, line, begin = 0, 1, 0
    while at < len(text):
        sign = text[at]
        if sign == "\n":
            at, line, begin = at + 1, line + 1, at + 1
        elif sign == " ":
            at += 1
        else:
            kind, worth, size = _word_at(text, at)
            if kind == STRING and words and words[-1][0] == STRING:
                words[-1] = (STRING, words[-1][1] + worth, words[-1][2], words[-1][3])
            else:
                words.append((kind, worth, line, at - begin + 1))
            if kind == BAD:
                return words
            at += size
    words.append((OVER, None, line, at - begin + 1))
    return words


def _word_at(text, at):
    """The word that begins at a place: (kind, worth, how many signs)."""
    sign = text[at]
    if sign in FIGURES:
        return _number_at(text, at)
    if sign in SMALL:
        return _bare_at(text, at)
    if sign in GREAT or sign == "_":
        return _name_at(text, at)
    if sign == "'":
        return _quoted_at(text, at)
    if sign == "\"":
        return _string_at(text, at)
    if sign == "$":
        return _figure_of_sign_at(text, at)
    if sign == ".":
        return (STOP, None, 1) if text[at + 1:at + 2] in ("", " ", "\n") else WRONG
    return _sign_at(text, at)


def _end_of(text, at, signs):
    """Where the row of such signs ends that goes on at a place."""
    while at < len(text) and text[at] in signs:
        at += 1
    return at


def _number_at(text, at):
    end = _end_of(text, at, FIGURES)
    number = int(text[at:end])
    if text[end:end + 1] != "#":
        return (NUMBER, number, end - at)
    far = _end_of(text, end + 1, FIGURES + SMALL + GREAT)
    if far == end + 1:
        return (NUMBER, number, end - at)
    if not 2 <= number <= 36:
        return WRONG
    total = 0
    for sign in text[end + 1:far].lower():
        worth = FIGURES_OF_BASES.index(sign)
        if worth >= number:
            return WRONG
        total = total * number + worth
    return (NUMBER, total, far - at)


def _figure_of_sign_at(text, at):
    sign = text[at + 1:at + 2]
    if sign in ("", " ", "\n"):
        return WRONG
    if sign != "\\":
        return (NUMBER, ord(sign), 2)
    escaped = text[at + 2:at + 3]
    if escaped not in NUMBER_ESCAPES:
        return WRONG
    return (NUMBER, NUMBER_ESCAPES[escaped], 3)


def _bare_at(text, at):
    end = _end_of(text, at, WORD_SIGNS)
    word = text[at:end]
    if len(word) > LONGEST_WORD:
        return WRONG
    return (word if word in KEYED else ATOM, word, end - at)


def _name_at(text, at):
    end = _end_of(text, at, WORD_SIGNS)
    word = text[at:end]
    if len(word) > LONGEST_WORD:
        return WRONG
    return (ANY if word == "_" else NAME, word, end - at)


def _quoted_at(text, at):
    end = _end_of(text, at + 1, WORD_SIGNS)
    word = text[at + 1:end]
    if text[end:end + 1] != "'" or not is_atom(word):
        return WRONG
    return (ATOM, word, end - at + 1)


def _string_at(text, at):
    """A string: its worth is the tuple of its signs' numbers."""
    numbers = []
    end = at + 1
    while text[end:end + 1] != "\"":
        sign = text[end:end + 1]
        if sign in ("", "\n"):
            return WRONG
        if sign == "\\":
            end += 1
            escaped = text[end:end + 1]
            if escaped not in STRING_ESCAPES:
                return WRONG
            numbers.append(STRING_ESCAPES[escaped])
        else:
            numbers.append(ord(sign))
        end += 1
    return (STRING, tuple(numbers), end - at + 1)


def _sign_at(text, at):
    for sign in SIGNS:
        if text[at:at + len(sign)] == sign:
            return (sign, None, len(sign))
    return WRONG
