"""What rows of calls do. Each goes on by itself, or tells why the run stops: None as long as it does not."""

LAST = {"last": True, "outlast": True, "applast": True, "spreadlast": True, "outspreadlast": True}


def _want_last(run, op):
    """Goes astray if a last call stands where a frame is on."""
    if op.word in LAST and run.slots is not None:
        run.astray()


def _enter(run, op, deck, row, words):
    """Goes on where a function begins; the next place is put on the stack, but by a last call."""
    if op.word not in LAST:
        run.push_back()
    run.enter(deck, row, words)


def _call(run, op):
    _want_last(run, op)
    words = run.arguments(op.more[0])
    _enter(run, op, run.deck, run.deck.places[op.labels[0]], words)


def _outer(run, op):
    _want_last(run, op)
    many = op.more[0]
    words = run.arguments(many + 2)
    return _full(run, words[many], words[many + 1], words[:many])


def _full(run, module, name, words):
    """Stops ahead of a full call."""
    if not isinstance(module, str) or not isinstance(name, str):
        return run.fall("error", "badarg")
    return ("asks", "full", (module, name, tuple([run.store.term(word) for word in words])))


def answered_full(run, parts, edition):
    """Goes on behind a full call that goes to this edition, 0 for none."""
    module, name, terms = parts
    if not run.began:
        run.began = True
        if edition == 0:
            return ("lost", "error", "undef")
        deck = run.decks[module]
        run.enter(deck, deck.entries[(name, len(terms))], run.store.lay_all(terms))
        return None
    if edition == 0:
        return run.fall("error", "undef")
    deck = run.decks[module]
    words = run.store.lay_all(terms)
    _enter(run, run.deck.ops[run.at], deck, deck.entries[(name, len(terms))], words)
    return None


def _apply(run, op):
    _want_last(run, op)
    many = op.more[0]
    words = run.arguments(many + 1)
    return _call_word(run, op, words[many], words[:many])


def _call_word(run, op, word, words):
    """Calls what may be a function."""
    if run.store.kind(word) != "fun":
        return run.fall("error", ("tuple", "badfun", run.store.term(word)))
    term = run.store.term(word)
    _, module, name, size, edition, _ = term
    row = _row_of(run, term)
    if edition > 0 and row is None:
        return run.fall("error", ("tuple", "badfun", term))
    if size != len(words):
        terms = ("list", *[run.store.term(one) for one in words])
        return run.fall("error", ("tuple", "badarity", ("tuple", term, terms)))
    if edition == 0:
        return _full(run, module, name, words)
    _enter(run, op, run.decks[module], row, [*words, *run.store.held_words(word)])
    return None


def _row_of(run, term):
    """The row at which a function of an edition begins; None if it is not there."""
    _, module, name, size, edition, _ = term
    if edition != 1 or module not in run.decks:
        return None
    deck = run.decks[module]
    return deck.entries.get((name, size)) if isinstance(name, str) else deck.funs.get(name)


def _spread(run, op):
    _want_last(run, op)
    word, row = run.arguments(2)
    words = run.store.parts(row)
    if words is None:
        return run.fall("error", "badarg")
    return _call_word(run, op, word, words)


def _outspread(run, op):
    _want_last(run, op)
    module, name, row = run.arguments(3)
    words = run.store.parts(row)
    if words is None:
        return run.fall("error", "badarg")
    return _full(run, module, name, words)


def _return(run, _op):
    word = run.arguments(1)[0]
    if run.slots is not None:
        run.astray()
    if run.below is None:
        return ("done", run.store.term(word))
    run.go_to(run.pop_part())
    run.set_arguments([word])
    return None


CALLS = {
    "call": _call, "last": _call, "outer": _outer, "outlast": _outer, "apply": _apply, "applast": _apply,
    "spread": _spread, "spreadlast": _spread, "outspread": _outspread, "outspreadlast": _outspread, "return": _return,
}
