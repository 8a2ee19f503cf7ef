"""Answers to questions about subjects: whether they stand together, and what they settle."""

from arrivalmill.errors import BadAnswers, BadNames, BadQuestion, BadWidth
from arrivalmill.freest import freest, strings_in
from arrivalmill.heads import are_held, are_known, are_subjects
from arrivalmill.sameness import is_same
from arrivalmill.signs import is_count
from arrivalmill.spots import There, answer_so, answer_to

GREATEST_WIDTH = 4
MOST_ANSWERS = 60


def answering(width, known, answers):
    """Any subjects, and terms of the known names, that answer so."""
    _want_answers(width, known, answers)
    found = freest(width, known, answers, strings_in(answers))
    return ("never",) if found is None else told_subjects(found, known)


def told_subjects(found, known):
    """Freest subjects as they are told."""
    subjects, held = found
    return ("subjects", subjects, tuple([(name, held[name]) for name in known]))


def _want_answers(width, known, answers):
    if not is_count(width, 0) or width > GREATEST_WIDTH:
        raise BadWidth(width)
    if not are_known(known):
        raise BadNames(known)
    if not isinstance(answers, tuple) or len(answers) > MOST_ANSWERS:
        raise BadAnswers(None)
    there = There(width, known, ())
    for number, row in enumerate(answers):
        if not isinstance(row, tuple) or len(row) != 3 or not isinstance(row[2], bool):
            raise BadAnswers(number)
        if not there.can_stand(row[0], row[1]):
            raise BadAnswers(number)
        there.answer(*row)


def shows_answering(width, known, answers, value):
    """Whether any value tells rightly which subjects answer so."""
    told = answering(width, known, answers)
    if told == ("never",):
        return is_same(told, value)
    if not is_told_subjects(width, known, value):
        return False
    return answer_so(answers, value[1], {name: term for name, term in value[2]})


def is_told_subjects(width, known, value):
    """Whether any value tells subjects of this width, and terms of the known names."""
    if not isinstance(value, tuple) or len(value) != 3 or not is_same("subjects", value[0]):
        return False
    return are_subjects(width, value[1]) and are_held(known, value[2])


def settled(width, known, answers, place, question):
    """Whether all subjects that answer so answer a question alike."""
    _want_answers(width, known, answers)
    if not There(width, known, answers).can_stand(place, question):
        raise BadQuestion((place, question))
    return settled_by(width, known, answers, place, question)


def settled_by(width, known, answers, place, question):
    """What answers tell of a question that can stand behind them: "yes", "no" or "open"."""
    mentioned = strings_in((answers, place, question))
    found = freest(width, known, answers, mentioned)
    if found is None or answer_to(place, question, *found):
        return "yes"
    with_it = (*answers, (place, question, True))
    return "no" if freest(width, known, with_it, mentioned) is None else "open"
