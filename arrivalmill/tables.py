"""The names of operators and built-in functions, with how many arguments they take."""

from arrivalmill.signs import is_count

# How tight the operators between two are, loosest first.
LEVELS = {
    "orelse": 0, "andalso": 1,
    "==": 2, "/=": 2, "=<": 2, "<": 2, ">=": 2, ">": 2, "=:=": 2, "=/=": 2,
    "++": 3, "--": 3,
    "+": 4, "-": 4, "bor": 4, "bxor": 4, "bsl": 4, "bsr": 4, "or": 4, "xor": 4,
    "*": 5, "div": 5, "rem": 5, "band": 5, "and": 5,
}
COMPARED = 2
JOINED = 3
AHEAD_OF_ONE = ("-", "bnot", "not")

GUARD_FUNCTIONS = {
    "is_atom": (1,), "is_boolean": (1,), "is_integer": (1,), "is_number": (1,), "is_list": (1,), "is_tuple": (1,),
    "is_map": (1,), "is_binary": (1,), "is_pid": (1,), "is_reference": (1,), "is_function": (1, 2),
    "abs": (1,), "min": (2,), "max": (2,), "hd": (1,), "tl": (1,), "length": (1,), "tuple_size": (1,),
    "byte_size": (1,), "element": (2,), "map_size": (1,), "map_get": (2,), "is_map_key": (2,), "self": (0,),
}
OTHER_FUNCTIONS = {
    "setelement": (3,), "map_to_list": (1,), "map_remove": (2,), "tuple_to_list": (1,), "list_to_tuple": (1,),
    "integer_to_list": (1,), "list_to_integer": (1,), "atom_to_list": (1,), "list_to_atom": (1,),
    "binary_to_list": (1,), "list_to_binary": (1,), "make_ref": (0,), "apply": (2, 3),
    "throw": (1,), "error": (1,), "exit": (1,),
}
LOOKING_FUNCTIONS = {
    "monotonic_time": (0,), "link": (1,), "unlink": (1,), "unregister": (1,), "whereis": (1,), "cancel_timer": (1,),
    "purge": (1,), "soft_purge": (1,), "delete": (1,), "monitor": (2,), "exit": (2,), "process_flag": (2,),
    "register": (2,), "load": (2,), "send_after": (3,), "start_timer": (3,), "demonitor": (1, 2),
    "spawn": (1, 3), "spawn_link": (1, 3), "spawn_monitor": (1, 3),
}


def is_built(name, many):
    """Whether there is a built-in function of this name with so many arguments."""
    return guards_have(name, many) or many in OTHER_FUNCTIONS.get(name, ()) or looks(name, many)


def guards_have(name, many):
    """Whether guards have this function."""
    return many in GUARD_FUNCTIONS.get(name, ())


def looks(name, many):
    """Whether this function does a look."""
    return many in LOOKING_FUNCTIONS.get(name, ())


def is_sign(sign, many):
    """Whether any value is an operator's sign, of so many parts, but of those that are worked out in part."""
    if not isinstance(sign, str):
        return False
    if many == 1:
        return sign in AHEAD_OF_ONE
    return many == 2 and is_count(LEVELS.get(sign, -1), COMPARED)
