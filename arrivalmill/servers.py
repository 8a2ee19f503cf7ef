"""Asking, servers, and machines of states, in the language itself; and what they come to."""

from arrivalmill.errors import BadLetters, BadRow, BadTable, BadTerm, BadTime
from arrivalmill.sameness import is_same
from arrivalmill.shapes import is_kind
from arrivalmill.signs import is_count, is_reference
from arrivalmill.terms import is_term

TICK = ("tick",)
ENDLESS = "infinity"

# A name is asked for once, ahead of the watch: so who is watched is who gets the letter.
ASK = """-module(ask).
-export([wait/3, answer/2, tell/2]).

wait(To, What, Time) when is_atom(To) ->
    case whereis(To) of undefined -> exit(noproc); Process -> wait(Process, What, Time) end;
wait(To, What, Time) ->
    Ref = monitor(process, To),
    To ! {ask, {self(), Ref}, What},
    receive
        {Ref, Answer} -> demonitor(Ref, [flush]), Answer;
        {'DOWN', Ref, process, _, Reason} -> exit(Reason)
    after Time -> demonitor(Ref, [flush]), exit(timeout) end.

answer({From, Ref}, Answer) -> From ! {Ref, Answer}, ok.

tell(To, What) -> To ! {tell, What}, ok.
"""

SERVER = """-module(server).
-export([start/2]).

start(M, Arg) ->
    Starter = self(),
    Tag = make_ref(),
    {Process, Ref} = spawn_monitor(fun () -> first(M, Arg, Starter, Tag) end),
    receive
        {Tag, ok} -> link(Process), demonitor(Ref, [flush]), {ok, Process};
        {'DOWN', Ref, process, _, Reason} -> {error, Reason}
    end.

first(M, Arg, Starter, Tag) ->
    case M:init(Arg) of
        {ok, State} -> Starter ! {Tag, ok}, serve(M, State);
        {stop, Reason} -> exit(Reason);
        V -> exit({bad_return, V})
    end.

serve(M, State) ->
    receive
        {ask, Who, What} -> asked(M, Who, State, M:asked(What, Who, State));
        {tell, What} -> went(M, State, M:told(What, State));
        {system, Who, Word} -> word(M, Who, State, Word, goes);
        T -> went(M, State, M:other(T, State))
    end.

asked(M, Who, _, {answer, A, State}) -> answer(Who, A), serve(M, State);
asked(M, Who, _, {stop, A, Reason, State}) -> answer(Who, A), stop(M, Reason, State);
asked(M, _, State, V) -> went(M, State, V).

went(M, _, {go, State}) -> serve(M, State);
went(M, _, {stop, Reason, State}) -> stop(M, Reason, State);
went(M, State, V) -> stop(M, {bad_return, V}, State).

hold(M, State) -> receive {system, Who, Word} -> word(M, Who, State, Word, holds) end.

word(M, Who, State, state, How) -> answer(Who, {ok, State}), again(M, State, How);
word(M, Who, State, stop, _) -> answer(Who, ok), stop(M, normal, State);
word(M, Who, State, hold, _) -> answer(Who, ok), hold(M, State);
word(M, Who, State, go, _) -> answer(Who, ok), serve(M, State);
word(M, Who, State, {change, Extra}, holds) -> answer(Who, ok), hold(M, M:change(State, Extra));
word(M, Who, State, {change, _}, goes) -> answer(Who, {error, unheld}), serve(M, State);
word(M, Who, State, _, How) -> answer(Who, {error, unknown}), again(M, State, How).

again(M, State, goes) -> serve(M, State);
again(M, State, holds) -> hold(M, State).

stop(M, Reason, State) -> M:ending(Reason, State), exit(Reason).

answer({From, Ref}, A) -> From ! {Ref, A}.
"""

# Own stands for the events that come ahead of all letters, Off for those that were put off, the first one first.
STATES = """-module(states).
-export([start/2]).

start(M, Arg) ->
    Starter = self(),
    Tag = make_ref(),
    {Process, Ref} = spawn_monitor(fun () -> first(M, Arg, Starter, Tag) end),
    receive
        {Tag, ok} -> link(Process), demonitor(Ref, [flush]), {ok, Process};
        {'DOWN', Ref, process, _, Reason} -> {error, Reason}
    end.

first(M, Arg, Starter, Tag) ->
    case M:init(Arg) of
        {ok, State, Data} -> Starter ! {Tag, ok}, stand(M, State, Data, [], []);
        {stop, Reason} -> exit(Reason);
        V -> exit({bad_return, V})
    end.

stand(M, State, Data, [Event | Own], Off) ->
    came(M, State, Data, Event, Own, Off, M:at(State, Event, Data));
stand(M, State, Data, [], Off) ->
    Event = receive {ask, Who, What} -> {ask, Who, What}; {tell, What} -> {tell, What}; T -> {other, T} end,
    came(M, State, Data, Event, [], Off, M:at(State, Event, Data)).

came(M, State, _, _, Own, Off, {next, State, Data, Deeds}) -> stand(M, State, Data, done(Deeds) ++ Own, Off);
came(M, _, _, _, Own, Off, {next, State, Data, Deeds}) -> stand(M, State, Data, done(Deeds) ++ Off ++ Own, []);
came(M, State, _, _, Own, Off, {keep, Data, Deeds}) -> stand(M, State, Data, done(Deeds) ++ Own, Off);
came(M, State, Data, Event, Own, Off, off) -> stand(M, State, Data, Own, Off ++ [Event]);
came(_, _, _, _, _, _, {stop, Reason, _}) -> exit(Reason);
came(_, _, _, _, _, _, V) -> exit({bad_return, V}).

done([]) -> [];
done([{answer, {From, Ref}, A} | Deeds]) -> From ! {Ref, A}, done(Deeds);
done([{event, Event} | Deeds]) -> [Event | done(Deeds)].
"""


def texts():
    """The texts of the modules ask, server and states."""
    return (ASK, SERVER, STATES)


def outcome(ref, arrivals, time):
    """What an ask comes to whose watch has this reference."""
    if not is_reference(ref):
        raise BadTerm(ref)
    if not isinstance(arrivals, tuple) or not all([is_same(TICK, row) or is_term(row) for row in arrivals]):
        raise BadRow(arrivals)
    if not is_same(ENDLESS, time) and not is_count(time, 0):
        raise BadTime(time)
    left = None if time == ENDLESS else time
    for arrival in arrivals:
        if left == 0:
            break
        if arrival == TICK:
            left = None if left is None else left - 1
        elif is_kind(arrival, "tuple") and len(arrival) == 3 and arrival[1] == ref:
            return ("answer", arrival[2])
        elif is_kind(arrival, "tuple") and len(arrival) == 6 and arrival[1:4] == ("DOWN", ref, "process"):
            return ("exit", arrival[5])
    return ("exit", "timeout") if left == 0 else ("waits",)


def served(table, state, letters):
    """What a server answers that goes by a table, and its state behind all letters."""
    if not _is_table(table):
        raise BadTable(table)
    if not is_term(state):
        raise BadTerm(state)
    if not _are_rows(letters, 2):
        raise BadLetters(letters)
    answers = []
    for who, what in letters:
        rows = [row for row in table if row[:2] == (state, what)]
        if rows:
            answers.append((who, rows[0][2]))
            state = rows[0][3]
    return (tuple(answers), state)


def _is_table(value):
    """Whether any value is a tuple of rows of four terms, no two with one state and what."""
    if not _are_rows(value, 4):
        return False
    for number, row in enumerate(value):
        if [other for other in value[:number] if other[:2] == row[:2]]:
            return False
    return True


def _are_rows(value, size):
    """Whether any value is a tuple of tuples of so many terms."""
    if not isinstance(value, tuple):
        return False
    for row in value:
        if not isinstance(row, tuple) or len(row) != size or not all([is_term(term) for term in row]):
            return False
    return True
