"""Supervisors as they run: a driver that lets workers fall when all is quiet, and what then begins and ends."""

from arrivalmill.reading import Module
from arrivalmill.servers import texts
from arrivalmill.supervisors import text
from arrivalmill.weavings import System, steps_next
from arrivalmill.races import is_timer_set
from arrivalmill.world import world_after, world_begun

ASK = Module(texts()[0])
SUPERVISOR = Module(text())
DRIVER = Module("""-module(m). -export([f/2]).
f(Plan, Falls) -> process_flag(trap_exit, true), {ok, Top} = supervisor:start(Plan), falls(Top, Falls).
falls(_, []) -> receive never -> ok end;
falls(Top, [{Moment, Place, Reason} | Falls]) ->
    Now = monotonic_time(),
    receive never -> ok after Moment - Now -> ok end,
    case find(Top, Place) of none -> ok; Worker -> Worker ! {fall, Reason} end,
    falls(Top, Falls).
find(Process, []) -> Process;
find(none, _) -> none;
find(Keeper, [Name | Place]) ->
    case catch ask:wait(Keeper, children, infinity) of
        {'EXIT', _} -> none;
        Children -> case [Process || {Child, Process} <- Children, Child == Name] of [Process] -> find(Process, Place) end
    end.""")
NAMES = ("a", "b", "c", "d", "e", "g")


def workers(many, extra=""):
    """The module w, whose workers are w0, w1, ..; those of extra exits first."""
    names = ["w" + str(number) for number in range(many)]
    lines = ["-module(w). -export([" + ", ".join(name + "/0" for name in names) + "])."]
    lines += [name + "() -> w()." for name in names]
    return Module(" ".join(lines) + " w() -> receive {fall, Reason} -> exit(Reason) end." + extra)


def drawn_plan(rng, depth, count, most=3):
    """A plan by random; count is a list of how many workers there are, who are all unlike."""
    children = []
    for name in NAMES[:rng.randint(0 if depth else 1, most)]:
        stay = rng.choice(("always", "always", "faults", "faults", "never"))
        if depth < 3 and rng.random() < (0.45 if depth == 0 else 0.3):
            children.append(("tuple", name, stay, "long", ("tuple", "keeper", drawn_plan(rng, depth + 1, count, most))))
        else:
            children.append(("tuple", name, stay, rng.choice(("kill", 0, 2, 5)), ("tuple", "worker", "w", "w" + str(count[0]))))
            count[0] += 1
    return ("tuple", rng.choice(("one", "all", "rest")), rng.choice((0, 1, 1, 2, 3)), rng.choice((1, 2, 5, 20)), ("list", *children))


def places_in(plan, place=()):
    """All places of workers."""
    found = []
    for child in plan[4][1:]:
        inner = (*place, child[1])
        found += [inner] if child[4][1] == "worker" else places_in(child[4][2], inner)
    return found


def drawn_falls(rng, plan, many):
    places = places_in(plan)
    moment, falls = 0, []
    for _ in range(many if places else 0):
        moment += rng.choice((1, 1, 1, 2, 7))
        falls.append((moment, rng.choice(places), rng.choice(("bad", "bad", "bad", "normal", "shutdown"))))
    return tuple(falls)


def plan_at(plan, place):
    for name in place:
        plan = [child[4][2] for child in plan[4][1:] if child[1] == name][0]
    return plan


def run(plan, falls, count, most=3000, driver=DRIVER, extra=""):
    """What supervisor's processes begin and end, as shape tells it but for struck ones, and the world behind it."""
    start = ("m", "f", (plan, ("list", *[("tuple", moment, ("list", *place), reason) for moment, place, reason in falls])))
    system = System((driver, SUPERVISOR, ASK, workers(max(1, count), extra)), start)
    world = world_begun(system.texts, system.start)
    places, rows = {(1,): ()}, [("begin", 0, ())]
    for _ in range(most):
        step = steps_next(world)[0]
        if step == ("tick",) and not is_timer_set(world):
            return tuple(rows), world, places
        behind = world_after(world, step)
        for path in sorted(world.doers):
            for look in behind.doers[path].story[len(world.doers[path].story):]:
                note(look, path, places, plan, rows, behind.clock.now)
        world = behind
    raise AssertionError("it goes on for too long")


def note(look, path, places, plan, rows, moment):
    """Notes a beginning or an end."""
    if path not in places:
        return
    if look[0] == "end":
        reason = look[1]
        rows.append(("end", moment, places[path], reason))
    elif look[0] == "begin":
        children = plan_at(plan, places[path])[4][1:]
        start = look[3]
        if start[0] == "call":
            name = [child[1] for child in children if child[4][1:] == ("worker", start[1], start[2])][0]
        else:
            name = [child[1] for child in children if child[4][1] == "keeper" and child[4][2] in start[1][5]][0]
        places[look[2][1]] = (*places[path], name)
        rows.append(("begin", moment, places[look[2][1]]))
