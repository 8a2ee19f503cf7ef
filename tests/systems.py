"""Systems for tests, and weavings of them: by the told rule, and by random."""

from arrivalmill.reading import Module
from arrivalmill.weavings import System, next_steps, steps_next
from arrivalmill.world import world_after, world_begun

TICK = ("tick",)


def system(*texts, start=("m", "f", ())):
    """The system of these texts."""
    return System(tuple(Module(text) for text in texts), start)


def one(body, more=""):
    """The system of one module m whose function f has this body; more are functions beside it."""
    exports = "-export([f/0" + "".join(", " + part for part in names_of(more)) + "])."
    return system("-module(m). " + exports + " f() -> " + body + ". " + more)


def names_of(more):
    """The functions name/number that are told behind a % sign ahead of more."""
    module = Module("-module(x). " + more)
    return [name + "/" + str(many) for name, many in module.functions]


def led(told, weaving=(), ticks=0, most=400):
    """A weaving led on by the first next step, and by so many ticks when nothing else is left."""
    world = world_of(told, weaving)
    while len(weaving) < most:
        step = steps_next(world)[0]
        if step == TICK:
            if ticks == 0:
                return weaving
            ticks -= 1
        world = world_after(world, step)
        weaving += (step,)
    return weaving


def world_of(told, weaving):
    """The world behind a weaving."""
    world = world_begun(told.texts, told.start)
    for step in weaving:
        world = world_after(world, step)
    return world


def walked(told, random, size, ticks=6):
    """A weaving by random, of at most so many steps and ticks."""
    world, weaving = world_begun(told.texts, told.start), ()
    for _ in range(size):
        steps = steps_next(world)
        step = random.choice(steps[:-1]) if len(steps) > 1 else TICK
        if step == TICK or random.random() < 0.06:
            if ticks == 0:
                continue
            step, ticks = TICK, ticks - 1
        world = world_after(world, step)
        weaving += (step,)
    return weaving


MANY = system("""-module(m). -export([f/0, c/1, d/2, g/0]).
f() -> S = self(), process_flag(trap_exit, true), C = spawn(m, c, [S]), C ! {S, 1},
  {_, _} = spawn_monitor(fun () -> exit(boom) end), D = spawn_link(m, d, [S, C]), register(dd, D),
  Q = monitor(process, dd), spawn(fun m:g/0), T = start_timer(3, S, tick), send_after(2, D, go),
  link(C), whereis(dd), monitor(process, nobody), catch dd ! hallo, catch nobody ! hallo, cancel_timer(T),
  Z = loop(6, []), unlink(C), demonitor(Q, [flush]), exit(D, bye), catch unregister(dd), loop(5, Z).
loop(0, A) -> A;
loop(N, A) -> receive X when X =/= 5 -> loop(N - 1, [X | A]) after 3 -> loop(N - 1, [over | A]) end.
c(P) -> receive {P, N} -> P ! {ok, N} end, monotonic_time(), catch receive after 0 -> 1 end, P ! done,
  receive never -> 1 after 2 -> exit(late) end.
d(P, C) -> monitor(process, C), receive go -> P ! {gone, self()}; Y -> P ! {else, Y} end, catch register(ee, C),
  receive {'DOWN', _, _, _, W} -> exit(C, kill), W after 4 -> C ! stop, exit(P, hard) end.
g() -> 1.""")

ALONE = system("""-module(m). -export([f/0, g/1]).
f() -> S = self(), self() ! own, link(self()), monitor(process, self()), A = spawn_link(m, g, [S]),
  spawn_link(m, g, [A]), receive own -> 1 end, exit(self(), normal).
g(X) -> process_flag(trap_exit, true), X ! self(),
  receive Y -> Y after 1 -> self() ! {x}, exit(self(), foo), receive Z -> Z end end, exit(self(), kill), 1.""")

EDITIONS = system("""-module(v). -export([loop/1, mk/0, far/1]).
loop(P) -> receive {f, F} -> P ! F(1), loop(P); up -> v:loop(P); {keep, F} -> receive go -> P ! F(2) end, loop(P) end.
mk() -> fun (X) -> X + 1 end. far(P) -> P ! {hi, 1}.""",
                  """-module(v). -export([loop/1, mk/0]).
loop(P) -> receive up -> P ! v2, v:loop(P) after 2 -> P ! late end. mk() -> fun (X) -> X * 2 end.""",
                  """-module(m). -export([f/0, h/1]).
f() -> S = self(), A = spawn(v, loop, [S]), B = spawn(m, h, [A]), F = v:mk(), A ! {f, F}, B ! {x, F}, load(v, 1),
  A ! up, G = v:mk(), soft_purge(v), B ! F, load(v, 0), purge(v), catch v:far(S), delete(v), purge(v), load(v, 1),
  loop(4), purge(m), {G, 1}.
loop(0) -> ok; loop(N) -> receive X -> X, loop(N - 1) after 2 -> loop(N - 1) end.
h(A) -> receive {x, F} -> A ! {keep, F}, A ! go, link(A), receive G -> A ! {f, G} after 3 -> G = fun () -> 1 end end,
  catch spawn(G), spawn(fun v:mk/0), delete(m), load(m, 0), m:h(A) after 6 -> done end.""")

ALL = {"many": MANY, "alone": ALONE, "editions": EDITIONS}


def beginning(world, path):
    """The full call with which a process begins; None if it begins otherwise."""
    for look in world.doers[path[:-1]].story:
        if look[0] == "begin" and look[2] == ("pid", path):
            return look[3][1:] if look[3][0] == "call" else None
    return None
