"""Who ends, if processes of a web of ties end by themselves."""

from arrivalmill.errors import BadFalls, BadWeb
from arrivalmill.order import sorted_terms
from arrivalmill.sameness import is_same
from arrivalmill.signs import is_process
from arrivalmill.terms import is_term

LEAST_PROCESSES = 2
MOST_PROCESSES = 8
MOST_FALLS = 4


def who_ends(web, falls):
    """Each process that ends, ascending, with a way that leads to it from one that falls."""
    _want_web_and_falls(web, falls)
    found = {}
    for process, _ in falls:
        ways = _ways_from(web, process)
        for other in ways:
            if other not in found:
                found[other] = ways[other]
    return tuple([(process, found[process]) for process in sorted(found)])


def shows_who_ends(web, falls, value):
    """Whether any value tells who ends, each by a right way."""
    told = who_ends(web, falls)
    if not isinstance(value, tuple) or len(value) != len(told):
        return False
    fallen = [process for process, _ in falls]
    for row, wanted in zip(value, told):
        if not isinstance(row, tuple) or len(row) != 2 or not is_same(wanted[0], row[0]):
            return False
        if not _is_way(web, row[1]) or row[1][0] not in fallen or row[1][-1] != row[0]:
            return False
    return True


def may_end(web, falls):
    """For each process of the web the reasons with which it ends in some sequence of the falls."""
    _want_web_and_falls(web, falls)
    reasons = {process: [] for process in web[0]}
    for process, reason in falls:
        for other in _ways_from(web, process):
            if reason not in reasons[other]:
                reasons[other].append(reason)
    return tuple([(process, tuple(sorted_terms(reasons[process]))) for process in web[0]])


def _ways_from(web, process):
    """For each process that ends if this one falls, a shortest way to it."""
    ways = {process: (process,)}
    row = [process]
    at = 0
    while at < len(row):
        one = row[at]
        at += 1
        for other in _tied_with(web, one):
            if other not in ways and other not in web[2]:
                ways[other] = (*ways[one], other)
                row.append(other)
    return ways


def _tied_with(web, process):
    found = []
    for one, other in web[1]:
        if one == process:
            found.append(other)
        elif other == process:
            found.append(one)
    return found


def _is_way(web, value):
    """Whether any value is a way of the web."""
    if not isinstance(value, tuple) or not value or not _are_processes(value):
        return False
    for one, other in zip(value, value[1:]):
        if other not in _tied_with(web, one) or other in web[2]:
            return False
    return all([process not in value[:at] for at, process in enumerate(value)])


def _want_web_and_falls(web, falls):
    if not _is_web(web):
        raise BadWeb(web)
    if not _are_falls(web, falls):
        raise BadFalls(falls)


def _is_web(value):
    if not isinstance(value, tuple) or len(value) != 3 or not all([isinstance(part, tuple) for part in value]):
        return False
    processes, ties, trappers = value
    if not LEAST_PROCESSES <= len(processes) <= MOST_PROCESSES:
        return False
    if not _are_processes(processes) or not _ascend(processes):
        return False
    if not all([_is_tie(pair, processes) for pair in ties]) or not _ascend(ties):
        return False
    return _are_processes(trappers) and _ascend(trappers) and all([one in processes for one in trappers])


def _are_processes(values):
    return all([is_process(value) for value in values])


def _ascend(values):
    for one, other in zip(values, values[1:]):
        if not one < other:
            return False
    return True


def _is_tie(value, processes):
    if not isinstance(value, tuple) or len(value) != 2 or not _are_processes(value):
        return False
    return value[0] in processes and value[1] in processes and value[0] < value[1]


def _are_falls(web, value):
    if not isinstance(value, tuple) or not 1 <= len(value) <= MOST_FALLS:
        return False
    seen = []
    for row in value:
        if not isinstance(row, tuple) or len(row) != 2 or not is_process(row[0]) or row[0] not in web[0]:
            return False
        if row[0] in seen or not is_term(row[1]) or row[1] == "normal":
            return False
        seen.append(row[0])
    return True
