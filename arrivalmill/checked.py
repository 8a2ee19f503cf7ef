"""Code that is looked through before it runs: what is sure at each row, or a way on which a row wants more."""

from arrivalmill.errors import BadNumber, BadWay, Unsure
from arrivalmill.flows import beginnings
from arrivalmill.notereading import note_of
from arrivalmill.notes import are_wants_met, first_note, is_alike, made, tells_no_more, what_both_tell
from arrivalmill.sameness import is_same
from arrivalmill.signs import is_count

MOST_ARGUMENTS = 32


class Search:
    """Goes along all ways at once: at each row stands what all ways tell that have come to it.

    An event is (row, the note with which it was come to, the event of the row ahead, None at a beginning): each changes
    what stands at its row. told is what is wrong, None as long as nothing is.
    """

    def __init__(self, code):
        self.code = code
        self.notes = {}
        self.events = []
        self.at_rows = {}
        self.waiting = []
        self.told = None

    def go(self):
        """Goes on until nothing changes, or something is wrong."""
        for row, many in beginnings(self.code):
            self.come(row, first_note(many), None)
        while self.waiting and self.told is None:
            row = min(self.waiting)
            self.waiting.remove(row)
            note = self.notes[row]
            if are_wants_met(self.code, row, note):
                last = self.at_rows[row][-1]
                for behind, told in made(self.code, row, note):
                    self.come(behind, told, last)
            else:
                self.told = ("wrong", self.wrong_way(row))

    def come(self, row, note, parent):
        """Comes to a row with a note, from the row of an event."""
        known = self.notes.get(row)
        if known is not None and not is_alike(known, note):
            self.told = ("meets", (*self.way_to(parent), row), self.way_to(self.at_rows[row][0]))
        elif known is None or not tells_no_more(known, note):
            self.notes[row] = note if known is None else what_both_tell(known, note)
            self.at_rows.setdefault(row, []).append(len(self.events))
            self.events.append((row, note, parent))
            if row not in self.waiting:
                self.waiting.append(row)

    def way_to(self, event):
        """The rows that led to an event."""
        rows = []
        while event is not None:
            row, _, event = self.events[event]
            rows.append(row)
        rows.reverse()
        return tuple(rows)

    def wrong_way(self, row):
        """A way to a row whose wants are not met by what all ways to it tell.

        What is wanted is one thing beside the other, so some way by itself does not tell one of them. It is found from
        its end: of the events from which the known end of the way fails one is always the end of such a way.
        """
        end = (row,)
        bound = len(self.events)
        while True:
            number = self.failing_event(end, bound)
            bound = self.events[number][2]
            if bound is None:
                return end
            end = (self.events[bound][0], *end)

    def failing_event(self, end, bound):
        """The first event, up to a bound, at the first row of a way's end with whose note the way fails."""
        for number in self.at_rows[end[0]]:
            if number <= bound and _fails(self.code, end, self.events[number][1]):
                return number
        return None


def _fails(code, end, note):
    """Whether the wants of the last row of a way's end are not met if it begins with this note."""
    for ahead, row in zip(end, end[1:]):
        note = [told for behind, told in made(code, ahead, note) if behind == row][0]
    return not are_wants_met(code, end[-1], note)


def checked(code):
    """A table of what is sure at each row, or a way that shows that there is none."""
    search = _searched(code)
    return ("fine", _table_of(search)) if search.told is None else search.told


def _searched(code):
    search = Search(code)
    search.go()
    return search


def _table_of(search):
    """The notes as a table: where no way comes there is none."""
    numbers = range(len(search.code.ops))
    return tuple([search.notes[row].shown() if row in search.notes else None for row in numbers])


def best_table(code):
    """The table that tells most."""
    told = checked(code)
    if told[0] != "fine":
        raise Unsure(told)
    return told[1]


def shows_checked(code, value):
    """Whether any value is what may be told of code that is looked through."""
    if not isinstance(value, tuple) or len(value) not in (2, 3):
        return False
    if is_same("fine", value[0]) and len(value) == 2:
        return _holds(code, value[1])
    if is_same("wrong", value[0]) and len(value) == 2:
        notes = _notes_behind(code, None, value[1])
        return len([note for note in notes if not are_wants_met(code, value[1][-1], note)]) > 0
    return is_same("meets", value[0]) and len(value) == 3 and _meet_unlike(code, value[1], value[2])


def _holds(code, value):
    """Whether any value is a table that holds."""
    if not isinstance(value, tuple) or len(value) != len(code.ops):
        return False
    notes = [None if told is None else note_of(code, told) for told in value]
    for told, note in zip(value, notes):
        if told is not None and note is None:
            return False
    for row, many in beginnings(code):
        if notes[row] is None or not tells_no_more(notes[row], first_note(many)):
            return False
    for row, note in enumerate(notes):
        if note is not None and not _holds_at(code, notes, row):
            return False
    return True


def _holds_at(code, notes, row):
    """Whether a row's wants are met, and no row that can come next tells more than it makes."""
    if not are_wants_met(code, row, notes[row]):
        return False
    for behind, told in made(code, row, notes[row]):
        if notes[behind] is None or not tells_no_more(notes[behind], told):
            return False
    return True


def _meet_unlike(code, one, other):
    """Whether any values are two ways to one row with unlike frames, tries or hands."""
    notes, others = _notes_behind(code, None, one), _notes_behind(code, None, other)
    if not notes or not others or one[-1] != other[-1]:
        return False
    return len([1 for note in notes for told in others if not is_alike(note, told)]) > 0


def _notes_behind(code, many, way):
    """The notes made for the last row of a way, from a beginning with so many arguments, None for any.

    There are none for what is no way, and several only where a row comes next twice with unlike tries or hands.
    """
    if not isinstance(way, tuple) or not way or not all([is_count(row, 0) for row in way]):
        return []
    notes = [first_note(size) for row, size in beginnings(code) if row == way[0] and many in (None, size)]
    for ahead, row in zip(way, way[1:]):
        behind = []
        for note in notes:
            if are_wants_met(code, ahead, note):
                behind.extend([told for other, told in made(code, ahead, note) if other == row])
        notes = behind
    return notes


def note_behind(code, many, way):
    """The note made for the last row of a way, from a beginning with so many arguments."""
    if not is_count(many, 0) or many > MOST_ARGUMENTS:
        raise BadNumber(many)
    notes = _notes_behind(code, many, way)
    if not notes:
        raise BadWay(way)
    return notes[0].shown()
