"""Supervisors: a keeper of workers and keepers in the language itself; and what it begins and ends."""

from arrivalmill.errors import BadFalls, BadPlan
from arrivalmill.plans import House, is_plan, worker_places
from arrivalmill.signs import is_atom, is_count
from arrivalmill.terms import is_term

LAST_MOMENT = 9999

# A keeper has for each child {Name, Stay, Limit, What, Process}, none in the place of Process for those struck. What it
# ends is watched; behind the notice stands its exit by the tie, which is taken out of the box, too.
TEXT = """-module(supervisor).
-export([start/1]).

start(Plan) -> begun(Plan).

begun(Plan) ->
    Parent = self(),
    Tag = make_ref(),
    Process = spawn_link(fun () -> first(Plan, Parent, Tag) end),
    receive
        {Tag, ok} -> {ok, Process};
        {'EXIT', Process, Reason} -> {error, Reason}
    end.

first({Way, Most, Span, Children}, Parent, Tag) ->
    process_flag(trap_exit, true),
    Begun = [child(Child) || Child <- Children],
    Parent ! {Tag, ok},
    keep({Parent, Way, Most, Span}, Begun, []).

child({Name, Stay, Limit, What}) -> {Name, Stay, Limit, What, process(What)}.

process({worker, Module, Function}) -> spawn_link(Module, Function, []);
process({keeper, Plan}) -> case begun(Plan) of {ok, Process} -> Process; {error, Reason} -> exit(Reason) end.

keep(House, Children, Moments) ->
    {Parent, _, _, _} = House,
    receive
        {ask, {From, Ref}, children} ->
            From ! {Ref, [{Name, Process} || {Name, _, _, _, Process} <- Children]},
            keep(House, Children, Moments);
        {'EXIT', Parent, Reason} -> shut(Children, Reason);
        {'EXIT', Process, Reason} -> ended(House, Children, Moments, Process, Reason, parted(Children, Process, []));
        _ -> keep(House, Children, Moments)
    end.

parted([], _, _) -> none;
parted([{_, _, _, _, Process} = Child | Behind], Process, Ahead) -> {Ahead, Child, Behind};
parted([Child | Behind], Process, Ahead) -> parted(Behind, Process, Ahead ++ [Child]).

ended(House, Children, Moments, _, _, none) -> keep(House, Children, Moments);
ended({_, Way, Most, Span} = House, _, Moments, _, Reason, {Ahead, {Name, Stay, Limit, What, _}, Behind}) ->
    Gone = {Name, Stay, Limit, What, none},
    case comes_again(Stay, Reason) of
        false -> keep(House, Ahead ++ [Gone | Behind], Moments);
        true ->
            Now = monotonic_time(),
            Near = [Now | [Moment || Moment <- Moments, Moment > Now - Span]],
            case length(Near) > Most of
                true -> shut(Ahead ++ [Gone | Behind], shutdown);
                false -> keep(House, again(Way, Ahead, {Name, Stay, Limit, What}, Behind), Near)
            end
    end.

comes_again(always, _) -> true;
comes_again(faults, Reason) -> Reason =/= normal andalso Reason =/= shutdown;
comes_again(never, _) -> false.

again(one, Ahead, Child, Behind) -> Ahead ++ [child(Child) | Behind];
again(rest, Ahead, Child, Behind) ->
    Left = down(Behind),
    Ahead ++ [child(Child) | up(Left)];
again(all, Ahead, Child, Behind) ->
    Behinds = down(Behind),
    Aheads = down(Ahead),
    Begun = up(Aheads),
    Begun ++ [child(Child) | up(Behinds)].

down([]) -> [];
down([{Name, Stay, Limit, What, Process} | Behind]) ->
    Left = down(Behind),
    case Process of
        none -> [{Name, Stay, Limit, What, none} | Left];
        _ -> stop(What, Limit, Process), [{Name, Stay, Limit, What, left(Stay)} | Left]
    end.

left(never) -> none;
left(_) -> again.

up([]) -> [];
up([{Name, Stay, Limit, What, again} | Behind]) -> Child = child({Name, Stay, Limit, What}), [Child | up(Behind)];
up([Child | Behind]) -> [Child | up(Behind)].

shut(Children, Reason) -> down(Children), exit(Reason).

stop(What, Limit, Process) ->
    Ref = monitor(process, Process),
    stop(What, Limit, Process, Ref),
    receive {'EXIT', Process, _} -> ok after 0 -> ok end.

stop({worker, _, _}, kill, Process, Ref) -> exit(Process, kill), gone(Ref);
stop({worker, _, _}, Limit, Process, Ref) ->
    exit(Process, shutdown),
    receive {'DOWN', Ref, _, _, _} -> ok after Limit -> exit(Process, kill), gone(Ref) end;
stop({keeper, _}, _, Process, Ref) -> exit(Process, shutdown), gone(Ref).

gone(Ref) -> receive {'DOWN', Ref, _, _, _} -> ok end.
"""


def text():
    """The text of the module supervisor."""
    return TEXT


def shape(plan, falls):
    """What happens by a plan when workers fall, and which places stand in the end: (rows, stands)."""
    _want_plan(plan)
    if not _are_falls(plan, falls):
        raise BadFalls(falls)
    house = _fallen_house(plan, falls)
    return (tuple(house.rows), house.places_standing())


def _want_plan(value):
    if not is_term(value) or not is_plan(value, 1):
        raise BadPlan(value)


def _are_falls(plan, value):
    if not isinstance(value, tuple):
        return False
    places = worker_places(plan, ())
    ahead = 0
    for fall in value:
        if not isinstance(fall, tuple) or len(fall) != 3 or not is_count(fall[0], ahead) or fall[0] > LAST_MOMENT:
            return False
        if not isinstance(fall[1], tuple) or fall[1] not in places or not is_atom(fall[2]):
            return False
        ahead = fall[0]
    return True


def _fallen_house(plan, falls):
    """The house of a plan behind falls."""
    house = House(plan)
    for moment, place, reason in falls:
        house.moment = moment
        house.fall(place, reason)
    return house


def fewest_falls(plan):
    """The least number of falls that end the top, and any such falls; None if none do."""
    _want_plan(plan)
    places = _places_to_fall(plan, ())
    if places is None:
        return None
    # All at one moment: so all restarts are within one span.
    return (len(places), tuple([(0, place, "fault") for place in places]))


def _places_to_fall(plan, place):
    """The places, in sequence, whose falls make a keeper give up, as few as can be; None if none do.

    Each restart that counts comes of one child by itself, and a child that is begun again is as it was at first.
    """
    best = None
    for _, name, stay, _, what in plan[4][1:]:
        inner = (*place, name)
        found = None
        if what[1] == "worker":
            found = None if stay == "never" else [inner]
        elif stay == "always":
            found = _places_to_fall(what[2], inner)
        if found is not None and (best is None or len(found) < len(best)):
            best = found
    return None if best is None else best * (plan[2] + 1)
