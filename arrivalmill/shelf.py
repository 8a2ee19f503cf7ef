"""The code book: the texts that a system has, and which editions of them are there."""

NOSUCH = ("tuple", "error", "nosuch")
NOT_PURGED = ("tuple", "error", "not_purged")


class Shelf:
    """The code book's standing; none is ever changed.

    texts has the programs of each name; standing for each name (current, old, last): numbers of editions, None for
    none, and the last one that came; book the program of each (name, edition) that is there; came the (name, number)
    of all texts that were loaded, in sequence; gone how many editions are gone.
    """

    def __init__(self, texts, standing, book, came, gone):
        self.texts = texts
        self.standing = standing
        self.book = book
        self.came = came
        self.gone = gone


def first_shelf(texts):
    """The code book as a run begins."""
    standing = {name: (1, None, 1) for name in texts}
    return Shelf(texts, standing, {(name, 1): texts[name][0] for name in texts}, (), 0)


def current_edition(shelf, module, name, many):
    """The edition to which a full call goes; 0 for none."""
    if module not in shelf.standing:
        return 0
    current = shelf.standing[module][0]
    if current is None or (name, many) not in shelf.book[(module, current)].exports:
        return 0
    return current


def old_edition(shelf, name):
    """The old edition of a name; None for none."""
    return shelf.standing[name][1] if name in shelf.standing else None


def loaded(shelf, name, number):
    """What a load is answered, and the code book behind it."""
    if not 0 <= number < len(shelf.texts.get(name, ())):
        return (NOSUCH, shelf)
    current, old, last = shelf.standing[name]
    if old is not None:
        return (NOT_PURGED, shelf)
    book = {**shelf.book, (name, last + 1): shelf.texts[name][number]}
    standing = {**shelf.standing, name: (last + 1, current, last + 1)}
    behind = Shelf(shelf.texts, standing, book, (*shelf.came, (name, number)), shelf.gone)
    return (("tuple", "ok", last + 1), behind)


def deleted(shelf, name):
    """What a delete is answered, and the code book behind it."""
    if name not in shelf.standing or shelf.standing[name][0] is None:
        return (NOSUCH, shelf)
    current, old, last = shelf.standing[name]
    if old is not None:
        return (NOT_PURGED, shelf)
    standing = {**shelf.standing, name: (None, current, last)}
    return ("ok", Shelf(shelf.texts, standing, shelf.book, shelf.came, shelf.gone))


def without_old(shelf, name):
    """The code book without the old edition of a name, if there is one."""
    if old_edition(shelf, name) is None:
        return shelf
    current, old, last = shelf.standing[name]
    book = {place: shelf.book[place] for place in shelf.book if place != (name, old)}
    standing = {**shelf.standing, name: (current, None, last)}
    return Shelf(shelf.texts, standing, book, shelf.came, shelf.gone + 1)
