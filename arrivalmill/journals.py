"""Journals: all that a desk holds, as a text, which is read back line by line."""

from arrivalmill.desk import Desk, is_mark_name, path_text
from arrivalmill.errors import (
    BadForm, BadJournal, BadModules, BadStart, BadTermText, BadText, Unsound,
)
from arrivalmill.reading import Module
from arrivalmill.shapes import is_kind, is_list
from arrivalmill.signs import is_path
from arrivalmill.termtext import read_term, term_text
from arrivalmill.weavings import System
from arrivalmill.world import can_do, world_after

CLOCK_AND_NAMES = ("clock", "names")


def journal(desk):
    """The text of all that a desk holds."""
    modules = desk.system.modules
    lines = ["modules " + str(len(modules))]
    for module in modules:
        lines.extend(["|" + line for line in module.text.split("\n")])
        lines.append("end")
    name, function, terms = desk.system.start
    lines.append("start " + term_text(("tuple", name, function, ("list", *terms))))
    lines.extend([_step_text(step) for step in desk.steps])
    lines.append("place " + str(desk.place))
    for mark in desk.marks:
        lines.append("mark " + mark)
        lines.extend([_step_text(step) for step in desk.weavings[mark]])
    return "\n".join(lines)


def _step_text(step):
    words = [step[0]]
    for part in step[1:]:
        words.append(part if isinstance(part, str) else path_text(part))
    return " ".join(words)


def read_journal(text):
    """The desk whose journal this is."""
    if not isinstance(text, str):
        raise BadJournal(0)
    reader = JournalReader(text)
    desk = Desk(reader.read_system())
    steps = reader.read_steps(desk)
    place = reader.read_place(len(steps))
    ahead = ""
    while reader.at < len(reader.lines):
        ahead = reader.read_mark(ahead)
        desk.take_steps(reader.read_steps(desk))
        desk.stand_at(len(desk.steps))
        desk.mark(ahead)
    desk.take_steps(steps)
    desk.stand_at(place)
    return desk


class JournalReader:
    """Goes through the lines of a journal."""

    def __init__(self, text):
        self.lines = text.split("\n")
        self.at = 0

    def fail(self):
        """Raises the error of the line that comes next."""
        raise BadJournal(self.at + 1)

    def line_here(self):
        """The line that comes next; it fails if there is none."""
        if self.at >= len(self.lines):
            self.fail()
        return self.lines[self.at]

    def rest_behind(self, word):
        """What stands in the line that comes next behind its first word, which is this one, and a blank."""
        line = self.line_here()
        if not line.startswith(word + " "):
            self.fail()
        return line[len(word) + 1:]

    def number_behind(self, word):
        """The number behind this word."""
        number = _number_of(self.rest_behind(word))
        if number is None:
            self.fail()
        return number

    def read_system(self):
        """The system: its modules, and its start."""
        many = self.number_behind("modules")
        self.at += 1
        modules = []
        while len(modules) < many:
            modules.append(self.read_module())
        system = _system_of(tuple(modules), self.rest_behind("start"))
        if system is None:
            self.fail()
        self.at += 1
        return system

    def read_module(self):
        """A module: the lines of its text, and its end."""
        lines = []
        while self.line_here().startswith("|"):
            lines.append(self.line_here()[1:])
            self.at += 1
        module = _module_of("\n".join(lines)) if self.line_here() == "end" and lines else None
        if module is None:
            self.fail()
        self.at += 1
        return module

    def read_steps(self, desk):
        """Steps, each of which can be done behind those ahead, as a tuple."""
        world = desk.worlds[0]
        steps = []
        while self.at < len(self.lines) and self.lines[self.at].split(" ")[0] in ("go", "come", "tick"):
            step = _step_of(self.lines[self.at])
            if step is None or not can_do(world, step):
                self.fail()
            world = world_after(world, step)
            steps.append(step)
            self.at += 1
        return tuple(steps)

    def read_place(self, most):
        """The place, behind so many steps at most."""
        place = self.number_behind("place")
        if place > most:
            self.fail()
        self.at += 1
        return place

    def read_mark(self, ahead):
        """The name of a mark, which stands behind the name of the one ahead."""
        name = self.rest_behind("mark")
        if not is_mark_name(name) or not ahead < name:
            self.fail()
        self.at += 1
        return name


def _number_of(text):
    """The number, from 0 on, that Python writes so; None if it writes none so."""
    if not text.isdigit() or not text.isascii() or (len(text) > 1 and text[0] == "0"):
        return None
    return int(text)


def _module_of(text):
    """The module of a text; None if it is none."""
    try:
        return Module(text)
    except (BadText, BadForm):
        return None


def _system_of(modules, text):
    """The system of modules and the text of a start; None if there is none."""
    try:
        term = read_term(text)
        if not is_kind(term, "tuple") or len(term) != 4 or not is_list(term[3]):
            return None
        return System(modules, (term[1], term[2], term[3][1:]))
    except (BadTermText, BadModules, Unsound, BadStart):
        return None


def _step_of(line):
    """The step that a line tells; None if it tells none."""
    words = line.split(" ")
    if words == ["tick"]:
        return ("tick",)
    paths = [word if word in CLOCK_AND_NAMES else _path_of(word) for word in words[1:]]
    if None in paths:
        return None
    if words[0] == "go" and len(paths) == 1:
        return ("go", paths[0])
    return ("come", paths[0], paths[1]) if words[0] == "come" and len(paths) == 2 else None


def _path_of(text):
    """The path of a text; None if it is none."""
    if text == "/":
        return ()
    if not text.startswith("/"):
        return None
    path = tuple([_number_of(word) for word in text[1:].split("/")])
    return path if is_path(path) else None
