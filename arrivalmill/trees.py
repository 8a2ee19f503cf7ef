"""Trees of questions that find the clause which takes subjects."""

from arrivalmill.errors import BadNumbers, BadTree
from arrivalmill.freest import freest, strings_in
from arrivalmill.growing import Grower, clause_questions, names_at
from arrivalmill.heads import are_failing, names_if_fit, want_subjects
from arrivalmill.questions import is_told_subjects, settled_by, told_subjects
from arrivalmill.sameness import is_same
from arrivalmill.signs import is_count
from arrivalmill.spots import There, answer_to

SIZES = {"ask": 5, "fits": 4, "none": 1}


def tree(heads):
    """A right tree of these heads."""
    grower = Grower(heads)
    return grower.grow((), ())


def shows_tree(heads, value):
    """Whether any value is a right tree of these heads, which keep the last one that was."""
    if heads.right is not None and is_same(heads.right, value):
        return True
    row = [(value, (), ())]
    while row:
        part, answers, passed = row.pop()
        if not isinstance(part, tuple) or not part or not isinstance(part[0], str):
            return False
        if part[0] not in SIZES or len(part) != SIZES[part[0]]:
            return False
        check = CHECKS[part[0]]
        behind = check(heads, part, answers, passed)
        if behind is None:
            return False
        row.extend(behind)
    heads.right = value
    return True


def _ask_behind(heads, part, answers, passed):
    """The trees behind a question, each with its answers; None if it cannot stand, or is not open."""
    _, place, question, yes, no = part
    if not There(heads.width, heads.known, answers).can_stand(place, question):
        return None
    if settled_by(heads.width, heads.known, answers, place, question) != "open":
        return None
    return [(yes, (*answers, (place, question, True)), passed), (no, (*answers, (place, question, False)), passed)]


def _fits_behind(heads, part, answers, passed):
    """The tree behind a clause that fits, if there is one; None if the clause, or what it binds, is not right."""
    _, number, names, rest = part
    if not is_count(number, 0) or number >= len(heads.cases) or number in passed:
        return None
    if not _are_passed(heads, number, answers, passed) or not _binds(heads, number, names, answers):
        return None
    if not heads.guards[number]:
        return [] if rest is None else None
    return [(rest, answers, (*passed, number))]


def _none_behind(heads, _part, answers, passed):
    return [] if _are_passed(heads, len(heads.cases), answers, passed) else None


CHECKS = {"ask": _ask_behind, "fits": _fits_behind, "none": _none_behind}


def _are_passed(heads, number, answers, passed):
    """Whether each clause ahead of a number was left by its rest, or fits none that answer so."""
    for ahead in range(number):
        if ahead not in passed:
            wanted = [(*question, True) for question in clause_questions(heads, ahead)]
            if freest(heads.width, heads.known, (*answers, *wanted), {}) is not None:
                return False
    return True


def _binds(heads, number, value, answers):
    """Whether a clause fits all that answer so, and any value has its names, each with a place of what it binds."""
    subjects, held = freest(heads.width, heads.known, answers, _mentioned(heads, answers))
    row = tuple([(name, held[name]) for name in heads.known])
    found = names_if_fit(heads, number, subjects, row)
    if found is None or not isinstance(value, tuple) or len(value) != len(heads.binds[number]):
        return False
    there = There(heads.width, heads.known, answers)
    places = names_at(heads, number)
    for name, pair in zip(heads.binds[number], value):
        if not isinstance(pair, tuple) or len(pair) != 2 or not is_same(name, pair[0]) or not there.has_place(pair[1]):
            return False
        wanted = [(*question, True) for question in clause_questions(heads, number)]
        same = settled_by(heads.width, heads.known, (*answers, *wanted), pair[1], ("same", places[name]))
        if same != "yes":
            return False
    return True


def _mentioned(heads, answers):
    return strings_in((heads.rows, answers))


def goes(heads, value, subjects, held, failing):
    """The number of the clause that a right tree takes, None for none, and the answers on the way to it."""
    if not shows_tree(heads, value):
        raise BadTree(value)
    want_subjects(heads, subjects, held)
    if not are_failing(heads, failing):
        raise BadNumbers(failing)
    worths = {name: term for name, term in held}
    way = []
    part = value
    while part[0] == "ask" or (part[0] == "fits" and part[1] in failing):
        if part[0] == "fits":
            part = part[3]
        else:
            answer = answer_to(part[1], part[2], subjects, worths)
            way.append((part[1], part[2], answer))
            part = part[3] if answer else part[4]
    return (part[1] if part[0] == "fits" else None, tuple(way))


def reached(heads):
    """For each clause any subjects that it fits and no clause ahead without a guard does, or that there are none."""
    return tuple([_reached_at(heads, number) for number in range(len(heads.cases))])


def _reached_at(heads, number):
    wanted = [(*question, True) for question in clause_questions(heads, number)]
    found = freest(heads.width, heads.known, wanted, strings_in(heads.rows))
    if found is None:
        return ("never",)
    # What the freest subjects of a clause fit by the way is fitted by all of them.
    told = told_subjects(found, heads.known)
    return ("never",) if _is_covered(heads, number, told) else told


def _is_covered(heads, many, told):
    """Whether one of the first clauses, without a guard, fits told subjects."""
    for number in range(many):
        if not heads.guards[number] and names_if_fit(heads, number, told[1], told[2]) is not None:
            return True
    return False


def shows_reached(heads, value):
    """Whether any value tells rightly which subjects reach which clauses."""
    told = reached(heads)
    if not isinstance(value, tuple) or len(value) != len(told):
        return False
    for number, (wanted, row) in enumerate(zip(told, value)):
        if wanted == ("never",):
            if not is_same(wanted, row):
                return False
        elif not is_told_subjects(heads.width, heads.known, row) or _is_covered(heads, number, row):
            return False
        elif names_if_fit(heads, number, row[1], row[2]) is None:
            return False
    return True


def untaken(heads):
    """Any subjects that no clause without a guard fits, or that there are none."""
    found = freest(heads.width, heads.known, (), strings_in(heads.rows))
    told = told_subjects(found, heads.known)
    return ("taken",) if _is_covered(heads, len(heads.cases), told) else told


def shows_untaken(heads, value):
    """Whether any value tells rightly which subjects no clause without a guard fits."""
    told = untaken(heads)
    if told == ("taken",):
        return is_same(told, value)
    return is_told_subjects(heads.width, heads.known, value) and not _is_covered(heads, len(heads.cases), value)
