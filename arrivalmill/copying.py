"""Terms copied from heap to heap, and one process all of whose terms lie on a heap."""

from arrivalmill.coderuns import CodeMind
from arrivalmill.errors import BadRoom, NoRoom
from arrivalmill.heaps import ROOMS, Heap
from arrivalmill.heapstores import HeapStore
from arrivalmill.machine import coded_alone, want_codes
from arrivalmill.signs import is_integer
from arrivalmill.single import doer_at, lived, want_life


def copied(heap, word, other):
    """The word, on another heap, of the same term."""
    words = heap.flat(word)
    if words > other.free:
        raise NoRoom(words)
    return other.put(heap.term(word))


def heap_alone(codes, path, start, signals, answers, *, room=12, always=False):
    """What one process does by its code that begins by this full call, its terms lying on a heap: (looks, end)."""
    if not is_integer(room) or room not in ROOMS:
        coded_alone(codes, path, start, signals, answers)
        raise BadRoom(room)
    want_codes(codes)
    want_life(path, start, signals, answers)
    doer = doer_at(path)
    mind = CodeMind(codes, HeapStore(Heap(room), always is True), doer)
    return lived(doer, mind, start, signals, answers)
