"""Desks: a system's steps as they are done, gone back, gone on, and marked."""

from arrivalmill.errors import BadName, BadNumber, BadPath, BadStep, BadWish, Held, NoMark, TooFar
from arrivalmill.names import who
from arrivalmill.records import same_run
from arrivalmill.signs import SMALL, is_atom, is_count, is_path
from arrivalmill.world import can_do, world_after, world_begun

LONGEST_NAME = 8


class Desk:
    """A row of steps, of which those ahead of a place are done, with the worlds along them; and marks."""

    def __init__(self, system):
        self.system = system
        self.steps = ()
        self.place = 0
        self.weaving = ()
        self.marks = ()
        self.origin = (tuple([module.text for module in system.modules]), system.start)
        self.worlds = [world_begun(system.texts, system.start)]
        self.weavings = {}

    def __eq__(self, other):
        if not isinstance(other, Desk) or self.origin != other.origin or self.steps != other.steps:
            return False
        return self.place == other.place and self.weavings == other.weavings

    def __len__(self):
        return len(self.weaving)

    def stand_at(self, place):
        """Stands behind so many of its steps."""
        self.place = place
        self.weaving = self.steps[:place]

    def step(self, step):
        """Does a step: the last look that its process did by it, None for none."""
        world = self.worlds[self.place]
        if not can_do(world, step):
            raise BadStep(step)
        behind = world_after(world, step)
        self.worlds = [*self.worlds[:self.place + 1], behind]
        self.steps = (*self.weaving, step)
        self.stand_at(self.place + 1)
        if step[0] == "tick":
            return None
        looks = behind.doers[step[-1]].story
        return looks[-1] if len(looks) > len(world.doers[step[-1]].story) else None

    def back(self, many):
        """Goes back by so many steps."""
        if not is_count(many, 0):
            raise BadNumber(many)
        if many > self.place:
            raise TooFar(self.place)
        self.stand_at(self.place - many)

    def on(self, many):
        """Goes on by so many steps."""
        if not is_count(many, 0):
            raise BadNumber(many)
        most = len(self.steps) - self.place
        if many > most:
            raise TooFar(most)
        self.stand_at(self.place + many)

    def mark(self, name):
        """Gives its weaving a name."""
        if not is_mark_name(name):
            raise BadName(name)
        if name in self.weavings:
            raise Held(name)
        self.weavings[name] = self.weaving
        self.marks = tuple(sorted(list(self.weavings)))

    def want_mark(self, name):
        """Raises NoMark for what is no name of a mark."""
        if not is_mark_name(name) or name not in self.weavings:
            raise NoMark(name)

    def to(self, name):
        """Takes the steps of a mark, and stands behind all of them."""
        self.want_mark(name)
        self.take_steps(self.weavings[name])
        self.stand_at(len(self.steps))

    def take_steps(self, steps):
        """Holds these steps, a weaving, instead of its own."""
        alike = 0
        while alike < min(len(steps), len(self.steps)) and steps[alike] == self.steps[alike]:
            alike += 1
        worlds = self.worlds[:alike + 1]
        for step in steps[alike:]:
            worlds.append(world_after(worlds[-1], step))
        self.worlds = worlds
        self.steps = steps

    def first(self, wish):
        """The least place behind which a wish is so; None if there is none."""
        if not _is_wish(wish):
            raise BadWish(wish)
        for place in range(self.place + 1):
            if _is_so(self.worlds[place], wish):
                return place
        return None

    def beside(self, name):
        """What parts its weaving and a mark's first."""
        self.want_mark(name)
        return same_run(self.system, self.weaving, self.weavings[name])

    def copy(self):
        """A desk alike, by itself."""
        other = Desk(self.system)
        other.steps = self.steps
        other.worlds = list(self.worlds)
        other.weavings = {name: self.weavings[name] for name in self.weavings}
        other.marks = self.marks
        other.stand_at(self.place)
        return other


def is_mark_name(value):
    """Whether any value is a string of one to eight letters a to z."""
    if not isinstance(value, str) or not 1 <= len(value) <= LONGEST_NAME:
        return False
    return not [sign for sign in value if sign not in SMALL]


def _is_wish(value):
    if not isinstance(value, tuple) or not value or not isinstance(value[0], str):
        return False
    form = (value[0], len(value))
    if form == ("name", 2):
        return is_atom(value[1])
    if form not in (("ended", 2), ("look", 3), ("box", 3)) or not isinstance(value[1], tuple):
        return False
    if not all([is_count(number, 1) for number in value[1]]):
        return False
    if value[0] == "look":
        return isinstance(value[2], str)
    return value[0] == "ended" or is_count(value[2], 0)


def _is_so(world, wish):
    """Whether a wish is so in a world."""
    if wish[0] == "name":
        return who(world.names, wish[1]) is not None
    if not is_path(wish[1]) or wish[1] not in world.doers:
        return False
    doer = world.doers[wish[1]]
    if wish[0] == "ended":
        return doer.ended
    if wish[0] == "look":
        return len([look for look in doer.story if look[0] == wish[2]]) > 0
    return not doer.ended and len(doer.box) >= wish[2]


def path_text(path):
    """A path as text."""
    if not is_path(path):
        raise BadPath(path)
    return "/" + "/".join([str(number) for number in path])
