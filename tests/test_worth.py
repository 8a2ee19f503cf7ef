"""Section 8, working out: what calls come to; section 9, as far as the first look."""

import time
import unittest

from arrivalmill.errors import BadBook, BadTerms, Undefined
from arrivalmill.plain import worth
from arrivalmill.reading import Module
from arrivalmill.termtext import read_term, term_text
from tests.values import NIL, NO_TERMS

# The body of a function of X and Y, and what it comes to; X is 1, Y is [1,2,3]. Functions stand in HELP.
HELP = """
id(T) -> T.
note(T, W) -> throw({T, W}).
two({T}) -> T; two([T | _]) when T > 1 -> {more, T}; two(a) -> b.
bad(error, T) -> error(T); bad(exit, T) -> exit(T); bad(throw, T) -> throw(T); bad(_, T) -> T.
sum([]) -> 0; sum([H | T]) -> H + sum(T).
pass(F) -> F().
"""
ROWS = """
1 = 1
'end' = 'end'
X = 1
<<1, 2>> = <<1,2>>
[] = []
{X, {}, [Y]} = {1,{},[[1,2,3]]}
[X | Y] = [1,1,2,3]
[X, X | a] = [1,1|a]
[X | [2 | 3]] = [1,2|3]
"ab" = [97,98]
#{} = #{}
#{b => 1, a => 2} = #{a=>2,b=>1}
#{a => 1, a => 2, a => 3} = #{a=>3}
#{id(a) => X, id(a) => id(5)} = #{a=>5}
#{}#{a => 1} = #{a=>1}
#{a => 1}#{a := 2, b => 3} = #{a=>2,b=>3}
#{}#{a => 1, a := 2} = #{a=>2}
#{}#{a := 2, a => 1} ! error {badkey,a}
X#{a => 1} ! error {badmap,1}
X#{a := 1} ! error {badmap,1}
[]#{a => throw(x)} ! throw x
#{}#{a := throw(x)} ! throw x
#{}#{id(b) := 1} ! error {badkey,b}
X + id(2) * 3 = 7
-id(3) = -3
not id(true) = false
X + a ! error badarith
X div 0 ! error badarith
id(1) rem id(0) ! error badarith
1 bsl id(1001) ! error system_limit
id(true) and a ! error badarg
id([1]) ++ id([2]) = [1,2]
id([1, 2]) -- [1] = [2]
a ++ [] ! error badarg
hd([]) ! error badarg
hd(id([])) ! error badarg
element(3, {1, 2}) ! error badarg
setelement(1, {1, 2}, id(3)) = {3,2}
map_get(a, id(1)) ! error {badmap,1}
map_get(a, #{}) ! error {badkey,a}
list_to_atom("ok") = ok
throw(X) ! throw 1
error(X) ! error 1
exit(X) ! exit 1
self() = <>
{self(), id(self())} = {<>,<>}
make_ref() = #<:1>
{make_ref(), make_ref(), [make_ref()]} = {#<:1>,#<:2>,[#<:3>]}
catch make_ref(), make_ref() = #<:2>
{throw(a), throw(b)} ! throw a
{id(1), throw(a), error(b)} ! throw a
[throw(a) | throw(b)] ! throw a
#{throw(a) => throw(b)} ! throw a
#{a => throw(b), throw(c) => d} ! throw b
(throw(a)):(throw(b))(throw(c)) ! throw a
a:(throw(b))(throw(c)) ! throw b
(throw(a))(throw(b)) ! throw a
note(throw(a), throw(b)) ! throw a
1 + a + throw(b) ! error badarith
(1 + a) + throw(b) ! error badarith
a + throw(b) ! throw b
{X = 1, Z = 2}, {X, Z} = {1,2}
Z = {1, 2}, {A, B} = Z, [B, A] = [2,1]
X = 2 ! error {badmatch,2}
{A, A} = {1, 2} ! error {badmatch,{1,2}}
{A, _} = {1, 2}, A = 1
A = B = 5, A + B = 10
A = (A = 5), A = 5
#{a := A} = #{a => 5, b => 6}, A = 5
#{b := A} = #{a => 5}, A ! error {badmatch,#{a=>5}}
#{X := A} = #{1 => 5}, A = 5
begin Z = 1, Z + 1 end = 2
case X of 2 -> a; 1 -> b; _ -> c end = b
case Y of [A | B] when A > 1 -> a; [A | B] -> {A, B} end = {1,[2,3]}
case X of 2 -> a end ! error {case_clause,1}
case X of Z when hd(Z) -> a; Z when Z -> b; Z when false; Z == 1 -> c end = c
case {X, 2} of {X, X} -> a; {X, Z} -> Z end = 2
case throw(x) of _ -> 1 end ! throw x
case Z = 5 of A -> A + Z end = 10
case 1 of 2 -> Z = 1; _ -> Z = 2 end, Z = 2
if X > 1 -> a; X == 1, true -> b end = b
if X > 1; X < 1 -> a; hd(X) -> b end ! error if_clause
if false -> a; true -> b end = b
two({5}) = 5
two([2]) = {more,2}
two(a) = b
two([1]) ! error function_clause
two(1) ! error function_clause
sum(Y) = 6
X andalso true ! error {badarg,1}
true andalso X = 1
false andalso X = false
false andalso throw(a) = false
true andalso throw(a) ! throw a
true orelse throw(a) = true
false orelse X = 1
a orelse true ! error {badarg,a}
id([]) andalso true ! error {badarg,[]}
id(true) andalso id(5) = 5
true andalso id(5) = 5
false orelse id(5) = 5
X andalso id(5) ! error {badarg,1}
false andalso link(a) = false
true orelse link(a) = true
id(false) orelse id(5) = 5
throw(a) andalso true ! throw a
true andalso (false orelse {X}) = {1}
fun (A) -> A + X end = fun m:0/1@1[1]
fun () -> {Y, X} end = fun m:0/0@1[1,[1,2,3]]
fun () -> 1 end = fun m:0/0@1
fun F(A) -> F(A) end = fun m:0/1@1
fun F(A) -> F(A + X) end = fun m:0/1@1[1]
fun id/1 = fun m:id/1@1
fun a:b/3 = fun a:b/3
(fun (A) -> A + X end)(5) = 6
(fun (X) -> X end)(5) = 5
(fun (A) when A > 1 -> a; (_) -> b end)(1) = b
(fun (A) when A > 1 -> a end)(1) ! error function_clause
(fun F([]) -> 0; F([H | T]) -> H + F(T) end)(Y) = 6
F = fun (A) -> fun (B) -> A + B + X end end, G = F(10), G(100) = 111
F = fun () -> Z = X + 1, Z end, F() + F() = 4
F = fun (#{X := V}) -> V end, F(#{1 => a}) = a
F = fun (#{X := V}) -> V end, F(#{2 => a}) ! error function_clause
F = fun F(F) -> F end, F(7) = 7
F = fun G(0) -> G; G(N) -> G(N - 1) end, F(3) == F = true
(fun (X, {X}) -> X end)(5, {5}) = 5
(fun (X, {X}) -> X end)(5, {6}) ! error function_clause
(fun id/1)(5) = 5
F = fun two/1, F({a}) = a
F = fun m:go/2, F(5, []) = {gone,5}
pass(fun () -> {X, Y} end) = {1,[1,2,3]}
X(5) ! error {badfun,1}
(a)(5) ! error {badfun,a}
(fun (A) -> A end)() ! error {badarity,{fun m:0/1@1,[]}}
(fun id/1)(1, 2) ! error {badarity,{fun m:id/1@1,[1,2]}}
(fun m:nothing/1)() ! error {badarity,{fun m:nothing/1,[]}}
(fun m:nothing/1)(1) ! error undef
(fun no:thing/0)() ! error undef
m:go(1, 2) = {gone,1}
(id(m)):(id(go))(id(3), 4) = {gone,3}
m:id(1) ! error undef
m:go(1) ! error undef
no:thing() ! error undef
X:go(1, 2) ! error badarg
m:X(1) ! error badarg
X:X() ! error badarg
(Y):go(throw(a)) ! throw a
other:twice(4) = 8
other:back(4) = {gone,4}
F = other:make(3), F(4) = 7
other:make(3) = fun other:0/1@1[3]
other:hidden(1) ! error undef
apply(fun (A) -> {A} end, [1]) = {1}
apply(m, go, [7, 8]) = {gone,7}
apply(fun id/1, []) ! error {badarity,{fun m:id/1@1,[]}}
apply(X, [1]) ! error {badfun,1}
apply(X, 1) ! error badarg
apply(fun id/1, [1 | 2]) ! error badarg
apply(m, go, a) ! error badarg
apply(1, go, []) ! error badarg
apply(m, 1, []) ! error badarg
apply(m, nothing, []) ! error undef
apply(m, go, [1,2,3,4,5,6,7,8,9,10]) ! error undef
[A || A <- Y] = [1,2,3]
[A * 10 || A <- Y, A > 1] = [20,30]
[{A, B} || A <- Y, B <- [x, y], A /= 2] = [{1,x},{1,y},{3,x},{3,y}]
[A || {A, A} <- [{1, 1}, {1, 2}, a, {2, 2}]] = [1,2]
[A || {X, A} <- [{1, 1}, {2, 2}]] = [1,2]
[A || #{X := A} <- [#{1 => a}, #{2 => b}, c]] = [a]
[A || K <- [1, 2], #{K := A} <- [#{1 => a}, #{2 => b}]] = [a,b]
[B || A <- Y, B <- [A, A]] = [1,1,2,2,3,3]
[A || A <- sum(Y)] ! error {bad_generator,6}
[A || A <- [1, 2 | c]] ! error {bad_generator,c}
[throw(A) || A <- [1, 2 | c]] ! throw 1
[A || A <- [1 | c], false] ! error {bad_generator,c}
[A || A <- Y, A] ! error {bad_filter,1}
[1 || true] = [1]
[1 || false] = []
[1 || a] ! error {bad_filter,a}
[1 || false, a] = []
[1 || throw(a)] ! throw a
[A || A <- []] = []
[A || A <- {}] ! error {bad_generator,{}}
[A || A <- Y, B <- A] ! error {bad_generator,1}
[id(A) || A <- id(Y), id(A > 1)] = [2,3]
[fun () -> A end || A <- [1, 2]] = [fun m:0/0@1[1],fun m:0/0@1[2]]
[make_ref() || _ <- Y] = [#<:1>,#<:2>,#<:3>]
[X || X <- [X, 5]] = [1,5]
catch X = 1
catch throw(a) = a
catch exit(a) = {'EXIT',a}
catch error(a) = {'EXIT',{a,[]}}
catch X = 2 = {'EXIT',{{badmatch,2},[]}}
(catch throw(5)) + 1 = 6
catch id(throw(a)) = a
try X of 1 -> a; _ -> b catch _:_ -> c end = a
try X catch _:_ -> c end = 1
try X of 2 -> a catch _:_ -> c end ! error {try_clause,1}
try X of 1 -> throw(a) catch _:_ -> c end ! throw a
try throw(a) of _ -> 1 catch a -> 2 end = 2
try throw(a) catch b -> 1 end ! throw a
try error(a) catch a -> 1 end ! error a
try error(a) catch error:a -> 1 end = 1
try exit(a) catch error:a -> 1; exit:A -> {A} end = {a}
try bad(error, x) catch C:R -> {C, R} end = {error,x}
try bad(exit, x) catch C:R -> {C, R} end = {exit,x}
try bad(throw, x) catch C:R -> {C, R} end = {throw,x}
try bad(none, x) catch C:R -> {C, R} end = x
try error(a) catch _:R -> R end = a
try error(a) catch C:R when C == exit -> R; C:R when R == a -> {C} end = {error}
try error(error) catch C:C -> C end = error
try error(a) catch C:C -> C end ! error a
C = exit, try error(a) catch C:R -> R; D:R -> {D} end = {error}
try error(a) catch foo:R -> R end ! error a
try throw(a) catch throw:{R} -> R; R -> {R} end = {a}
try error(a) catch error:_ -> throw(b) end ! throw b
try X after throw(b) end ! throw b
try error(a) after throw(b) end ! throw b
try error(a) catch error:_ -> 1 after throw(b) end ! throw b
try error(a) catch error:_ -> throw(c) after throw(b) end ! throw b
try error(a) after 5 end ! error a
try X after 5 end = 1
try X of 1 -> 2 after 5 end = 2
try X of 2 -> 2 after throw(q) end ! throw q
try error(a) catch error:_ -> 1 after 5 end = 1
try Z = 5 of 5 -> Z + 1 catch _ -> 1 end = 6
try Z = 5, Z catch _ -> 1 end, Z = 7, Z = 7
try try throw(a) after exit(b) end catch C:R -> {C, R} end = {exit,b}
try try error(a) catch throw:_ -> 1 end catch error:R -> {R} end = {a}
try {throw(a), error(b)} catch R -> R end = a
try sum(a) catch error:R -> R end = function_clause
try case X of 2 -> 1 end catch error:{case_clause, R} -> R end = 1
[try throw(A) catch B -> B * 2 end || A <- Y] = [2,4,6]
begin catch Z = 1, X end = 1
receive A -> A end ? receive
receive A -> A after infinity -> 1 end ? receive
receive A -> A after 0 -> 1 end ? over
receive after 0 -> 1 end ? over
receive after 1 -> 1 end ? wait
receive after id(5) -> 1 end ? wait
receive A -> A after id(infinity) -> 1 end ? receive
receive A -> A after -1 -> 1 end ! error timeout_value
receive A -> A after a -> 1 end ! error timeout_value
receive after {} -> 1 end ! error timeout_value
receive after throw(a) -> 1 end ! throw a
self() ! X ? send
name ! X ? send
X ! a ! error badarg
[] ! a ! error badarg
make_ref() ! a ! error badarg
throw(a) ! throw(b) ! throw a
X ! throw(b) ! throw b
spawn(fun () -> 1 end) ? begin
spawn(fun m:go/0) ? begin
spawn_link(fun () -> 1 end) ? begin
spawn_monitor(fun () -> 1 end) ? begin
spawn(fun id/1) ! error badarg
spawn(X) ! error badarg
spawn_link(fun id/1) ! error badarg
spawn_monitor(a) ! error badarg
spawn(a, b, []) ? begin
spawn_link(a, b, [c]) ? begin
spawn_monitor(a, b, Y) ? begin
spawn(a, b, c) ! error badarg
spawn(a, b, [c | d]) ! error badarg
spawn(1, b, []) ! error badarg
spawn_link(a, 1, []) ! error badarg
link(self()) ? tie
link(a) ! error badarg
unlink(self()) ? untie
unlink(X) ! error badarg
monitor(process, self()) ? watch
monitor(process, name) ? watch
monitor(process, X) ! error badarg
monitor(port, self()) ! error badarg
monitor(1, self()) ! error badarg
demonitor(make_ref()) ? unwatch
demonitor(make_ref(), [flush]) ? unwatch
demonitor(X) ! error badarg
demonitor(make_ref(), []) ! error badarg
demonitor(make_ref(), [info]) ! error badarg
demonitor(make_ref(), [flush, flush]) ! error badarg
demonitor(make_ref(), flush) ! error badarg
demonitor(X, [flush]) ! error badarg
exit(self(), a) ? exit
exit(name, a) ! error badarg
exit(X, a) ! error badarg
process_flag(trap_exit, true) ? trap
process_flag(trap_exit, false) ? trap
process_flag(trap_exit, X) ! error badarg
process_flag(other, true) ! error badarg
register(a, self()) ? give
register(undefined, self()) ? give
register(1, self()) ! error badarg
register(a, b) ! error badarg
unregister(a) ? free
unregister(1) ! error badarg
whereis(a) ? who
whereis([]) ! error badarg
monotonic_time() ? clock
send_after(0, self(), a) ? timer
send_after(5, self(), a) ? timer
send_after(-1, self(), a) ! error badarg
send_after(a, self(), a) ! error badarg
send_after(1, name, a) ! error badarg
start_timer(5, self(), a) ? timer
start_timer(infinity, self(), a) ! error badarg
start_timer(1, a, a) ! error badarg
cancel_timer(make_ref()) ? cancel
cancel_timer(X) ! error badarg
load(m, 0) ? load
load(m, -1) ? load
load(m, a) ! error badarg
load(1, 0) ! error badarg
purge(m) ? purge
purge(1) ! error badarg
soft_purge(m) ? soft
soft_purge(X) ! error badarg
delete(m) ? delete
delete([]) ! error badarg
{link(self()), throw(a)} ? tie
{throw(a), link(self())} ! throw a
catch link(a), link(self()) ? tie
try link(a) catch error:R -> R end = badarg
[link(self()) || _ <- Y] ? tie
fun () -> self() ! a end = fun m:0/0@1
other:sends(X) ? send
"""
OTHER = Module("""-module(other). -export([twice/1, back/1, make/1, sends/1]).
twice(T) -> hidden(T).
hidden(T) -> T * 2.
back(T) -> m:go(T, T).
make(T) -> fun (A) -> A + T end.
sends(T) -> self() ! T.
""")


def module(body):
    return Module("-module(m). -export([f/2, go/2]). f(X, Y) -> " + body + ".\n go(A, _) -> {gone, A}." + HELP)


def parted(row):
    """The body of a row, and what worth tells of it."""
    at, mark = max((row.rfind(sign), sign) for sign in (" = ", " ! ", " ? "))
    body, told = row[:at], row[at + 3:]
    if mark == " = ":
        return body, ("value", read_term(told))
    if mark == " ? ":
        return body, ("look", told)
    word, _, reason = told.partition(" ")
    return body, ("raise", word, read_term(reason))


class Worth(unittest.TestCase):
    def test_rows(self):
        for row in ROWS.strip().split("\n"):
            body, told = parted(row)
            self.assertEqual(told, worth((module(body), OTHER), "m", "f", (1, ("list", 1, 2, 3))), row)

    def test_the_number_of_a_fun(self):
        one = Module("""-module(m). -export([f/0, g/0]). f() -> A = fun () -> fun () -> 1 end end, {A, A(), [fun () -> B end || B <- [
            fun () -> 2 end]], fun f/0}. g() -> try fun () -> 1 end of C -> {C, fun X() -> X end} catch _ -> fun () -> 3 end
            after fun () -> 4 end end.""")
        third = ("fun", "m", 3, 0, 1, ())
        self.assertEqual(("value", ("tuple", ("fun", "m", 0, 0, 1, ()), ("fun", "m", 1, 0, 1, ()),
                                    ("list", ("fun", "m", 2, 0, 1, (third,))), ("fun", "m", "f", 0, 1, ()))), worth((one,), "m", "f", ()))
        self.assertEqual(("value", ("tuple", ("fun", "m", 4, 0, 1, ()), ("fun", "m", 5, 0, 1, ()))), worth((one,), "m", "g", ()))

    def test_what_funs_hold(self):
        one = Module("""-module(m). -export([f/3]). f(C, B, A) -> case A of {D} -> E = D; D -> E = {D} end,
            [fun () -> {E, B, A} end, fun (A) -> A + C end, fun F() -> {F, E, fun (B) -> {B, D} end} end, fun () -> Z = C, Z end].""")
        told = worth((one,), "m", "f", (3, 2, 1))[1]
        self.assertEqual([(1, 2, ("tuple", 1)), (3,), (1, ("tuple", 1)), (3,)], [fun[5] for fun in told[1:]])

    def test_functions_handed_in(self):
        one = module("X(Y)")
        for text, told in (("fun m:id/1@1", ("value", 7)), ("fun m:f/2", ("raise", "error", ("tuple", "badarity", ("tuple",
                           ("fun", "m", "f", 2, 0, ()), ("list", 7))))), ("fun other:twice/1", ("value", 14)), ("fun m:id/1", ("raise", "error", "undef")),
                           ("fun none:id/1", ("raise", "error", "undef")), ("fun m:id/1@2", ("raise", "error", ("tuple", "badfun", ("fun", "m", "id", 1, 2, ()))))):
            self.assertEqual(told, worth((one, OTHER), "m", "f", (read_term(text), 7)), text)
        made = worth((one, OTHER), "other", "make", (5,))[1]
        self.assertEqual(("value", 12), worth((one, OTHER), "m", "f", (made, 7)))

    def test_receives_see_no_names_of_their_times(self):
        one = module("receive Z -> Z after Z = X - 1 -> Z end")
        self.assertEqual(("look", "over"), worth((one,), "m", "f", (1, 1)))
        self.assertEqual(("look", "wait"), worth((one,), "m", "f", (3, 1)))
        self.assertEqual(("raise", "error", "timeout_value"), worth((one,), "m", "f", (0, 1)))

    def test_the_sequence_of_deeds(self):
        one = Module("""-module(m). -export([f/0]). f() -> try {t(1), t(2) + begin throw(t(3)) end, t(4)} catch R -> {R, make_ref()} end.
            t(N) -> make_ref(), N.""")
        self.assertEqual(("value", ("tuple", 3, ("ref", (), 4))), worth((one,), "m", "f", ()))
        two = Module("""-module(m). -export([f/0]). f() -> #{t() => t(), t() => t()}#{t() => t(), t() => t()}. t() -> make_ref().""")
        refs = [("ref", (), number) for number in range(1, 9)]
        self.assertEqual(("value", ("map", *zip(refs[::2], refs[1::2]))), worth((two,), "m", "f", ()))

    def test_deep_recursions_come_to_an_end(self):
        one = Module("""-module(m). -export([down/1, loop/2, even/1, list/1, sum/1, fold/2, deep/1, caught/1, far/1, ways/1]).
            down(0) -> 0; down(N) -> 1 + down(N - 1).
            loop(0, A) -> A; loop(N, A) -> loop(N - 1, A + N).
            even(0) -> true; even(N) -> odd(N - 1). odd(0) -> false; odd(N) -> even(N - 1).
            list(0) -> []; list(N) -> [N | list(N - 1)].
            sum([]) -> 0; sum([H | T]) -> H + sum(T).
            fold(_, []) -> 0; fold(F, [H | T]) -> F(H, fold(F, T)).
            deep(N) -> (fun F(0) -> 0; F(M) -> case F(M - 1) of R -> R + 1 end end)(N).
            caught(0) -> throw(0); caught(N) -> try caught(N - 1) catch R -> throw(R + 1) end.
            far(0) -> 0; far(N) -> X = m:far(N - 1), X + 1.
            ways(L) -> [X || X <- L, begin Y = X rem 2, Y == 0 end].""")
        begin = time.time()
        self.assertEqual(("value", 30000), worth((one,), "m", "down", (30000,)))
        self.assertEqual(("value", 99999 * 50000), worth((one,), "m", "loop", (99999, 0)))
        self.assertEqual(("value", "false"), worth((one,), "m", "even", (50001,)))
        self.assertEqual(("value", ("list", *range(4000, 0, -1))), worth((one,), "m", "list", (4000,)))
        self.assertEqual(("value", 4000 * 3999 // 2), worth((one,), "m", "sum", (("list", *range(4000)),)))
        self.assertEqual(("value", 20000), worth((one,), "m", "deep", (20000,)))
        self.assertEqual(("raise", "throw", 10000), worth((one,), "m", "caught", (10000,)))
        self.assertEqual(("value", 20000), worth((one,), "m", "far", (20000,)))
        self.assertEqual(("value", ("list", *range(0, 9000, 2))), worth((one,), "m", "ways", (("list", *range(9000)),)))
        self.assertLess(time.time() - begin, 60)

    def test_deep_forms(self):
        one = Module("-module(m). -export([f/1]). f(X) -> " + "case {" * 19 + "X" + "} of {_} -> X + 1 end" * 19 + ".")
        self.assertEqual(("value", 8), worth((one,), "m", "f", (7,)))
        two = Module("-module(m). -export([f/1]). f(X) -> " + "{[" * 19 + "X" + "]}" * 19 + ".")
        self.assertEqual(("value", read_term("{[" * 19 + "7" + "]}" * 19)), worth((two,), "m", "f", (7,)))
        three = Module("-module(m). -export([f/1]). f(X) -> " + "(fun () -> " * 38 + "X" + " end)()" * 38 + ".")
        self.assertEqual(("value", 7), worth((three,), "m", "f", (7,)))
        four = Module("-module(m). -export([f/1]). f(X) -> [" + ", ".join(["g(X)"] * 100) + "]. g(X) -> X.")
        self.assertEqual(("value", ("list", *[7] * 100)), worth((four,), "m", "f", (7,)))


class Errors(unittest.TestCase):
    ONE = Module("-module(m). -export([f/1]). f(X) -> g(X). g(X) -> X.")

    def raises(self, kind, value, *arguments):
        with self.assertRaises(kind) as caught:
            worth(*arguments)
        self.assertEqual(value, caught.exception.value)
        self.assertIs(type(value), type(caught.exception.value))

    def test_bad_books(self):
        one = self.ONE
        unsound = Module("-module(u). f() -> X.")
        many = tuple(Module("-module(m" + str(number) + ").") for number in range(7))
        for value in ((), [one], one, None, 1, "m", (one, one), (one, Module("-module(m).")), (unsound,), (one, unsound), (one, 1), (one, None),
                      many, (one.forms,), ((one,),), {one.name: one}):
            self.raises(BadBook, value, value, None, None, None)
        self.raises(Undefined, ("m0", "f", 0), many[:6], "m0", "f", ())

    def test_bad_terms(self):
        for value in (*[(value,) for value in NO_TERMS], [1], None, 1, "ab", {1: 2}):
            self.raises(BadTerms, value, (self.ONE,), None, None, value)

    def test_undefined(self):
        for name, function, terms in (("m", "g", (1,)), ("m", "f", ()), ("m", "f", (1, 2)), ("n", "f", (1,)), (None, "f", (1,)), ("m", True, (1,)),
                                      ([], {}, ()), (self.ONE, "f", (1,)), ("m", ("f", 1), (1,)), ("m", "f", (1,) * 10)):
            self.raises(Undefined, (name, function, len(terms)), (self.ONE,), name, function, terms)

    def test_what_is_hidden_or_unused_is_no_matter(self):
        one = Module("-module(m). -export([f/1]). f(X) -> Y = 1, (fun (X) -> X end)(2).")
        self.assertEqual(("value", 2), worth((one,), "m", "f", (1,)))
        self.assertEqual(("value", 2), worth(terms=(1,), function="f", module="m", modules=(one,)))

    def test_the_worked_example(self):
        one = Module("-module(one). -export([go/1]). go(X) -> try div_by(X) of N -> {ok, N} catch error:R -> R end. div_by(X) -> 7 div X.")
        self.assertEqual([("value", ("tuple", "ok", 3)), ("value", "badarith")], [worth((one,), "one", "go", (n,)) for n in (2, 0)])

    def test_what_comes_out_are_terms(self):
        one = Module("-module(m). -export([f/1]). f(X) -> {X == 1, [], #{}, <<>>}.")
        self.assertEqual("{true,[],#{},<<>>}", term_text(worth((one,), "m", "f", (1,))[1]))
        self.assertEqual(("value", NIL), worth((Module("-module(m). -export([f/0]). f() -> \"\"."),), "m", "f", ()))


if __name__ == "__main__":
    unittest.main()
