"""Sheets on which code is written: its constants, labels and rows; and the slots of the function that is written."""

from arrivalmill.termtext import term_text

NIL = ("list",)


class Sheet:
    """The rows of code as they are written, with the constants that they name.

    guarding is the label at which what is worked out goes on instead of raising, None where it raises.
    """

    def __init__(self):
        self.lines = []
        self.constants = []
        self.numbers = {}
        self.labels = 0
        self.guarding = None
        self.slots = Slots(0)

    def constant(self, term):
        """The source of a constant."""
        text = term_text(term)
        if text not in self.numbers:
            self.numbers[text] = len(self.constants)
            self.constants.append(text)
        return "c" + str(self.numbers[text])

    def label(self):
        """A label that stands nowhere else."""
        self.labels += 1
        return self.labels - 1

    def write(self, *words):
        """Writes a row."""
        self.lines.append(" ".join([str(word) for word in words]))

    def mark(self, label):
        """Lets a label begin here."""
        self.write("label", label)

    def jump(self, label):
        """Writes a row that goes on at a label."""
        self.write("jump", label)

    def make(self, target, word, sources):
        """Writes what is done to sources, here or in a guard."""
        if self.guarding is None:
            self.write("do", word, target, *sources)
        else:
            self.write("guard", word, self.guarding, target, *sources)

    def begin_function(self, label):
        """Begins a function: its frame is written when it is known how many slots it has."""
        self.slots = Slots(len(self.lines) + 1)
        self.mark(label)
        self.lines.extend(["", ""])

    def end_function(self):
        """Ends a function. All its slots are full from its beginning on, but those that are tries'."""
        many = max(1, self.slots.many)
        self.lines[self.slots.frame_at] = "frame " + str(many)
        self.lines[self.slots.frame_at + 1] = " ".join(["clear", *["y" + str(number) for number in range(many)]])


class Slots:
    """The slots of a function whose frame is written at a row: which are free, and in which the names that it binds."""

    def __init__(self, frame_at):
        self.frame_at = frame_at
        self.many = 0
        self.free_slots = []
        self.homes = {}

    def take(self):
        """A slot that nobody has, as a register."""
        if self.free_slots:
            return self.free_slots.pop()
        self.many += 1
        return "y" + str(self.many - 1)

    def give_back(self, slots):
        """Gives slots back."""
        self.free_slots.extend(slots)

    def home(self, name):
        """The slot of a name that is bound here."""
        if name not in self.homes:
            self.homes[name] = self.take()
        return self.homes[name]

    def enter(self):
        """Begins a part of which nobody sees what it binds: the homes ahead, for leaving it."""
        ahead = self.homes
        self.homes = {}
        return ahead

    def leave(self, ahead):
        """Ends such a part."""
        self.give_back([self.homes[name] for name in self.homes])
        self.homes = ahead
