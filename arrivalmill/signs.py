"""Signs, and the plain words that are made of them."""

SMALL = "abcdefghijklmnopqrstuvwxyz"
GREAT = "ABCDEFGHIJKLMNOPQRSTUVWXYZ"
FIGURES = "0123456789"
WORD_SIGNS = "abcdefghijklmnopqrstuvwxyzABCDEFGHIJKLMNOPQRSTUVWXYZ0123456789_@"
LONGEST_WORD = 16
LONGEST_PATH = 40

KEYED = (
    "after", "and", "andalso", "band", "begin", "bnot", "bor", "bsl", "bsr", "bxor", "case", "catch", "div", "end",
    "fun", "if", "not", "of", "or", "orelse", "receive", "rem", "try", "when", "xor",
)


def is_integer(value):
    """Whether any value is an int that is no bool."""
    return isinstance(value, int) and not isinstance(value, bool)


def is_count(value, least):
    """Whether any value is an integer from least on."""
    return is_integer(value) and value >= least


def is_atom(value):
    """Whether any value is a string of one to sixteen signs of words."""
    if not isinstance(value, str) or not 1 <= len(value) <= LONGEST_WORD or not value.isascii():
        return False
    return value.isalnum() or value.replace("_", "a").replace("@", "a").isalnum()


def is_name(value):
    """Whether any value is the name of a variable."""
    return is_atom(value) and value != "_" and (value[0] == "_" or value[0] in GREAT)


def is_path(value):
    """Whether any value is a path."""
    if not isinstance(value, tuple) or len(value) > LONGEST_PATH:
        return False
    for number in value:
        if not is_count(number, 1):
            return False
    return True


def is_process(value):
    """Whether any value is the term of a process."""
    return isinstance(value, tuple) and len(value) == 2 and _is_tag(value[0], "pid") and is_path(value[1])


def is_reference(value):
    """Whether any value is the term of a reference."""
    if not isinstance(value, tuple) or len(value) != 3:
        return False
    return _is_tag(value[0], "ref") and is_path(value[1]) and is_count(value[2], 1)


def _is_tag(value, word):
    return isinstance(value, str) and value == word


def atom_text(atom):
    """An atom as texts of terms and of modules have it: bare where it can be."""
    if atom[0] in SMALL and atom not in KEYED:
        return atom
    return "'" + atom + "'"
