"""All errors: each keeps its only argument as value."""


class MillError(ValueError):
    """What all errors of the program derive from."""

    def __init__(self, value):
        self.value = value


class BadTerm(MillError):
    """What should be a term is none."""


class BadTerms(MillError):
    """What should be a tuple of terms is none."""


class NoPart(MillError):
    """A term has no rest."""


class BadMap(MillError):
    """What should be a map is none."""


class NoKey(MillError):
    """A map does not have this key."""


class BadTermText(MillError):
    """A text is no term's: the value is the place of the first wrong sign."""


class BadText(MillError):
    """A text is no module's or expression's: the value is (line, column)."""


class BadForm(MillError):
    """A text reads, but breaks a rule: the value is (word, line, column)."""


class NoFunction(MillError):
    """A module does not have this (name, number)."""


class BadBuilt(MillError):
    """What should be an operator or a built-in function is none."""


class BadPattern(MillError):
    """What should be the form of a pattern is none."""


class BadGuard(MillError):
    """What should be the form of a guard is none."""


class BadNames(MillError):
    """What should be names, or names with their terms, is none."""


class BadBook(MillError):
    """What should be sound modules of unlike names are none."""


class Undefined(MillError):
    """No module exports this (module, function, number)."""


class BadSignal(MillError):
    """What should be a signal is none."""


class BadWeb(MillError):
    """What should be a web of processes is none."""


class BadFalls(MillError):
    """What should be falls is none."""


class BadBox(MillError):
    """What should be the letters of a box are none."""


class NoLetter(MillError):
    """A box has no letter of this number."""


class BadComings(MillError):
    """What should come to a receive is nothing that can."""


class BadTime(MillError):
    """What should be a time is none."""


class Held(MillError):
    """A key or a mark stands already."""


class BadModules(MillError):
    """What should be a system's modules are none."""


class Unsound(MillError):
    """A module is not sound."""


class BadStart(MillError):
    """What should be a start is none."""


class BadWeaving(MillError):
    """A step of a weaving cannot be done: the value is its number."""


class NoProcess(MillError):
    """No process of this path was begun."""


class BadPath(MillError):
    """What should be a path is none."""


class BadSignals(MillError):
    """A signal that is handed to one process cannot be."""


class BadAnswers(MillError):
    """An answer that is handed in cannot be."""


class BadRecord(MillError):
    """What should be a record is none."""


class NotRun(MillError):
    """A record is no run's."""


class NotSame(MillError):
    """Two weavings have unlike records."""


class Endless(MillError):
    """A weaving goes on for more looks than are looked at."""


class NoRace(MillError):
    """A weaving does not have this race."""


class BadNumber(MillError):
    """What should be a number within its bounds is none."""


class TooMany(MillError):
    """There are more tellings than asked for."""


class BadWish(MillError):
    """What should be a wish is none."""


class BadHeads(MillError):
    """What should be the clauses of heads are none."""


class BadSubjects(MillError):
    """What should be subjects is none."""


class BadHeld(MillError):
    """What should be the terms of known names is none."""


class BadNumbers(MillError):
    """What should be numbers of guarded clauses is none."""


class BadWidth(MillError):
    """What should be a width is none."""


class BadQuestion(MillError):
    """A question cannot stand here."""


class BadTree(MillError):
    """What should be a tree is none."""


class BadCode(MillError):
    """A text is no code's: the value is the first wrong line."""


class NoRow(MillError):
    """Code has no row of this number."""


class Tangled(MillError):
    """Tries stand open unlike on two ways to a row."""


class NoRoom(MillError):
    """There is no room, or a row is none."""


class BadWay(MillError):
    """What should be a way through code is none."""


class Unsure(MillError):
    """Code is not fine."""


class BadCodes(MillError):
    """What should be codes of unlike names are none."""


class Astray(MillError):
    """A row would do what it cannot."""


class BadRoom(MillError):
    """What should be a room is none."""


class BadWord(MillError):
    """What should be a word of a heap is none."""


class Gone(MillError):
    """A cell was cleared away."""


class BadCell(MillError):
    """What should be a cell is none."""


class BadRow(MillError):
    """What should be arrivals of an ask are none."""


class BadTable(MillError):
    """What should be a server's table is none."""


class BadLetters(MillError):
    """What should be letters to a server are none."""


class BadPlan(MillError):
    """What should be a plan is none."""


class BadName(MillError):
    """What should be a name is none."""


class BadModule(MillError):
    """A module does not have what it needs."""


class Stuck(MillError):
    """A square sticks behind this row of letters."""


class Many(MillError):
    """There are more states than are looked at."""


class BadStep(MillError):
    """A step cannot be done."""


class TooFar(MillError):
    """There are fewer steps than asked for."""


class NoMark(MillError):
    """There is no mark of this name."""


class BadJournal(MillError):
    """A text is no journal's: the value is the first wrong line."""
