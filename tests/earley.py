"""Tells where rows of words leave a grammar, by Earley's way: the grammar is written as section 6 tells it.

It knows nothing of the program: for each row of words it tells the first one that cannot stand, or None.
"""

GRAMMAR = """
TEXT = HEADER EXPORTS FUNCTIONS
HEADER = - module ( ATOM ) STOP
EXPORTS = | EXPORTS - export ( [ FNS ] ) STOP | EXPORTS - export ( [ ] ) STOP
FNS = ATOM / N9 | FNS , ATOM / N9
FUNCTIONS = | FUNCTIONS HEADS STOP
HEADS = ATOM HEAD GUARDED | HEADS ; ATOM HEAD GUARDED
HEAD = ( ) | ( PS )
PS = P | PS , P
GUARDED = -> BODY | when GUARD -> BODY
GUARD = TESTS | GUARD ; TESTS
TESTS = OR | TESTS , OR
BODY = W | BODY , W
W = catch W | M
M = PL = M | OR ! M | OR
OR = AND orelse OR | AND
AND = CMP andalso AND | CMP
CMP = CC COP CC | CC
COP = == | =< | < | =/=
CC = ADD ++ CC | ADD -- CC | ADD
ADD = ADD AOP MUL | MUL
AOP = + | - | bor | xor
MUL = MUL MOP UN | UN
MOP = * | div | and
UN = - PUT | bnot PUT | not PUT | PUT
PUT = PUT # { PUTROWS } | CALL
PUTROWS = PUTROW | PUTROWS , PUTROW
PUTROW = W => W | W := W
CALL = ASIDE : ASIDE ARGS | ASIDE ARGS | PRIM
ASIDE = ATOM | NAME | ( W )
ARGS = ( ) | ( BODY )
PRIM = NUM | ATOM | NAME | STRINGS | BYTES | ( W ) | { } | { BODY } | [ ] | [ BODY ] | [ BODY BAR W ]
PRIM = [ W || WAYS ] | # { } | # { ROWS } | begin BODY end | case W of CLAUSES end | if IFS end
PRIM = receive CLAUSES end | receive CLAUSES AFTER end | receive AFTER end
PRIM = try BODY OF CATCHES end | try BODY OF CATCHES after BODY end | try BODY OF after BODY end
PRIM = fun FUNS end | fun NAMED end | fun ATOM / N9 | fun ATOM : ATOM / N9
STRINGS = STRING | STRINGS STRING
BYTES = << >> | << BS >>
BS = B | BS , B
B = STRINGS | N9 | N255
NUM = N9 | N255 | BIG
WAYS = WAY | WAYS , WAY
WAY = P <- W | W
ROWS = W => W | ROWS , W => W
CLAUSES = P GUARDED | CLAUSES ; P GUARDED
IFS = GUARD -> BODY | IFS ; GUARD -> BODY
AFTER = after W -> BODY
OF = | of CLAUSES
CATCHES = catch CAUGHT
CAUGHT = CATCH GUARDED | CAUGHT ; CATCH GUARDED
CATCH = P | CLASS : P
CLASS = NAME | ANY | ATOM | ( CLASS )
FUNS = HEAD GUARDED | FUNS ; HEAD GUARDED
NAMED = NAME HEAD GUARDED | NAMED ; NAME HEAD GUARDED
P = PL = P | PL
PL = NUM | - NUM | ATOM | NAME | ANY | STRINGS | STRINGS ++ PL | BYTES | ( P ) | { } | { PS } | [ ] | [ PS ]
PL = [ PS BAR P ] | # { } | # { PROWS }
PROWS = K := P | PROWS , K := P
K = NUM | - NUM | ATOM | NAME | ( K )
"""


def grammar():
    """The rules of the grammar: what stands for each word that stands for others."""
    rules = {}
    for line in GRAMMAR.strip().split("\n"):
        name, _, ways = line.partition(" = ")
        for way in (" " + ways + " ").split(" | "):
            rules.setdefault(name, []).append(tuple(way.split()))
    return rules


RULES = grammar()
EMPTY = {name for name, ways in RULES.items() if () in ways}


def first_wrong(start, words):
    """The number of the first word that cannot stand behind those ahead; len(words) if more is wanted; None."""
    chart = [_closed({(start, way, 0, 0) for way in RULES[start]}, [], 0)]
    for number, word in enumerate(words):
        moved = {(name, way, dot + 1, at) for name, way, dot, at in chart[number]
                 if dot < len(way) and _fits(way[dot], word)}
        if not moved:
            return number
        chart.append(_closed(moved, chart, number + 1))
    whole = [row for row in chart[-1] if row[0] == start and row[2] == len(row[1]) and row[3] == 0]
    return None if whole else len(words)


def _fits(symbol, word):
    if symbol in RULES:
        return False
    return symbol == word or (symbol == "BAR" and word == "|") or (symbol == "ATOM" and word in ("module", "export"))


def _closed(rows, chart, at):
    found = set(rows)
    queue = list(rows)
    while queue:
        name, way, dot, begin = queue.pop()
        if dot == len(way):
            new = [] if begin == at else [
                (n, w, d + 1, b) for n, w, d, b in chart[begin] if d < len(w) and w[d] == name]
            if begin == at:
                new = [(n, w, d + 1, b) for n, w, d, b in list(found) if d < len(w) and w[d] == name]
        elif way[dot] in RULES:
            new = [(way[dot], w, 0, at) for w in RULES[way[dot]]]
            if way[dot] in EMPTY:
                new.append((name, way, dot + 1, begin))
        else:
            new = []
        for row in new:
            if row not in found:
                found.add(row)
                queue.append(row)
    return found


def sentence(start, random, depth):
    """A row of words that the grammar makes of a word, chosen by random."""
    if start not in RULES:
        return [start]
    ways = RULES[start]
    if depth <= 0:
        least = min(COSTS[start, way] for way in ways)
        ways = [way for way in ways if COSTS[start, way] == least]
    words = []
    for part in random.choice(ways):
        words.extend(sentence(part, random, depth - 1))
    return words


def _costs():
    costs = {}
    deep = {}
    for _ in range(30):
        for name, ways in RULES.items():
            for way in ways:
                parts = [deep.get(part, 1000) if part in RULES else 0 for part in way]
                costs[name, way] = 1 + max(parts, default=0)
            deep[name] = min(costs[name, way] for way in ways)
    return costs


COSTS = _costs()
