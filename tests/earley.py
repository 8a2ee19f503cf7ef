"""Tells where rows of words leave a grammar, by Earley's way: the grammar is written as section 6 tells it.

It knows nothing of the program: for each row of words it tells the first one that cannot stand, or None.
"""

GRAMMAR = """
TEXT = HEADER EXPORTS FUNCTIONS
HEADER = - module ( ATOM ) STOP
EXPORTS = | EXPORTS - export ( [ FNS ] ) STOP | EXPORTS - export ( [ ] ) STOP
FNS = ATOM / N9 | FNS , ATOM / N9
FUNCTIONS = | FUNCTIONS HEADS STOP
HEADS = ATOM HEAD GUARDED | HEADS ; ATOM HEAD GUARDED
HEAD = ( ) | ( PS )
PS = P | PS , P
GUARDED = -> BODY | when GUARD -> BODY
GUARD = TESTS | GUARD ; TESTS
TESTS = OR | TESTS , OR
BODY = W | BODY , W
W = catch W | M
M = PL = M | OR ! M | OR
OR = AND orelse OR | AND
AND = CMP andalso AND | CMP
CMP = CC COP CC | CC
COP = == | =< | < | =/=
CC = ADD ++ CC | ADD -- CC | ADD
ADD = ADD AOP MUL | MUL
AOP = + | - | bor | xor
MUL = MUL MOP UN | UN
MOP = * | div | and
UN = - PUT | bnot PUT | not PUT | PUT
PUT = PUT # { PUTROWS } | CALL
PUTROWS = PUTROW | PUTROWS , PUTROW
PUTROW = W => W | W := W
CALL = ASIDE : ASIDE ARGS | ASIDE ARGS | PRIM
ASIDE = ATOM | NAME | ( W )
ARGS = ( ) | ( BODY )
PRIM = NUM | ATOM | NAME | STRINGS | BYTES | ( W ) | { } | { BODY } | [ ] | [ BODY ] | [ BODY BAR W ]
PRIM = [ W || WAYS ] | # { } | # { ROWS } | begin BODY end | case W of CLAUSES end | if IFS end
PRIM = receive CLAUSES end | receive CLAUSES AFTER end | receive AFTER end
PRIM = try BODY OF CATCHES end | try BODY OF CATCHES after BODY end | try BODY OF after BODY end
PRIM = fun FUNS end | fun NAMED end | fun ATOM / N9 | fun ATOM : ATOM / N9
STRINGS = STRING | STRINGS STRING
BYTES = << >> | << BS >>
BS = B | BS , B
B = STRINGS | N9 | N255
NUM = N9 | N255 | BIG
WAYS = WAY | WAYS , WAY
WAY = P <- W | W
ROWS = W => W | ROWS , W => W
CLAUSES = P GUARDED | CLAUSES ; P GUARDED
IFS = GUARD -> BODY | IFS ; GUARD -> BODY
AFTER = after W -> BODY
OF = | of CLAUSES
CATCHES = catch CAUGHT
CAUGHT = CATCH GUARDED | CAUGHT ; CATCH GUARDED
CATCH = P | CLASS : P
CLASS = NAME | ANY | ATOM | ( CLASS )
FUNS = HEAD GUARDED | FUNS ; HEAD GUARDED
NAMED = NAME HEAD GUARDED | NAMED ; NAME HEAD GUARDED
P = PL = P | PL
PL = NUM | - NUM | ATOM | NAME | ANY | STRINGS | STRINGS ++ PL | BYTES | ( P ) | { } | { PS } | [ ] | [ PS ]
PL = [ PS BAR P ] | # { } | # { PROWS }
PROWS = K := P | PROWS , K := P
K = NUM | - NUM | ATOM | NAME | ( K )
"""


class Grammar:
    """Rules: for each word that stands for others a list of what it may stand for; classes: words for several ones."""

    def __init__(self, rules, classes):
        self.rules = rules
        self.classes = classes
        self.empty = {name for name, ways in rules.items() if () in ways}

    def first_wrong(self, start, words):
        """The number of the first word that cannot stand behind those ahead; len(words) if more is wanted; None."""
        chart = [self.closed({(start, way, 0, 0) for way in self.rules[start]}, [], 0)]
        for number, word in enumerate(words):
            moved = {(name, way, dot + 1, at) for name, way, dot, at in chart[number]
                     if dot < len(way) and self.fits(way[dot], word)}
            if not moved:
                return number
            chart.append(self.closed(moved, chart, number + 1))
        whole = [row for row in chart[-1] if row[0] == start and row[2] == len(row[1]) and row[3] == 0]
        return None if whole else len(words)

    def fits(self, symbol, word):
        if symbol in self.rules:
            return False
        return symbol == word or word in self.classes.get(symbol, ())

    def closed(self, rows, chart, at):
        found = set(rows)
        queue = list(rows)
        while queue:
            for row in self.behind(queue.pop(), found, chart, at):
                if row not in found:
                    found.add(row)
                    queue.append(row)
        return found

    def behind(self, row, found, chart, at):
        name, way, dot, begin = row
        if dot == len(way):
            waiting = list(found) if begin == at else chart[begin]
            return [(n, w, d + 1, b) for n, w, d, b in waiting if d < len(w) and w[d] == name]
        if way[dot] not in self.rules:
            return []
        new = [(way[dot], other, 0, at) for other in self.rules[way[dot]]]
        return new + [(name, way, dot + 1, begin)] if way[dot] in self.empty else new

    def costs(self):
        costs = {}
        deep = {}
        for _ in range(40):
            for name, ways in self.rules.items():
                for way in ways:
                    costs[name, way] = 1 + max([deep.get(part, 1000) for part in way if part in self.rules], default=0)
                deep[name] = min(costs[name, way] for way in ways)
        return costs


def rules_of(text):
    """The rules that a text tells, one or more ways a line."""
    rules = {}
    for line in text.strip().split("\n"):
        name, _, ways = line.partition(" = ")
        for way in (" " + ways + " ").split(" | "):
            rules.setdefault(name, []).append(tuple(way.split()))
    return rules


MODULES = Grammar(rules_of(GRAMMAR), {"BAR": ("|",), "ATOM": ("module", "export")})
COSTS = MODULES.costs()
WORDS = sorted({"|" if part == "BAR" else part for ways in MODULES.rules.values() for way in ways for part in way
                if part not in MODULES.rules})


def sentence(start, random, depth):
    """A row of words that the grammar of modules makes of a word, chosen by random, as short as can be below a depth."""
    if start not in MODULES.rules:
        return ["|" if start == "BAR" else start]
    ways = MODULES.rules[start]
    if depth <= 0:
        least = min(COSTS[start, way] for way in ways)
        ways = [way for way in ways if COSTS[start, way] == least]
    words = []
    for part in random.choice(ways):
        words.extend(sentence(part, random, depth - 1))
    return words
