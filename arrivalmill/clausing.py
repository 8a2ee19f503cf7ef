"""Reads what is made of clauses: bodies, guards, heads, and the expressions that begin with a keyed word."""

from arrivalmill.covers import EXPRESSION, PATTERN, WordReader
from arrivalmill.errors import BadText
from arrivalmill.forms import is_test
from arrivalmill.lexing import ATOM, NAME, NUMBER

MOST_PATTERNS = 9
CLASS_KINDS = ("name", "any", "atom")


class ClauseReader(WordReader):
    """A reader of clauses; how whole expressions and operators are read (whole, binary) the class below it tells."""

    def read_whole(self):
        """The form of a whole expression."""
        return self.whole(EXPRESSION).expression

    def read_pattern(self):
        """The form of a pattern."""
        return self.whole(PATTERN).pattern

    def read_body(self):
        """One expression or more."""
        forms = [self.whole(EXPRESSION).expression]
        while self.passes(","):
            forms.append(self.whole(EXPRESSION).expression)
        return tuple(forms)

    def read_guard(self):
        """A guard: one alternative or more."""
        alternatives = [self.read_tests()]
        while self.passes(";"):
            alternatives.append(self.read_tests())
        return tuple(alternatives)

    def read_tests(self):
        """One test or more."""
        tests = [self.read_test()]
        while self.passes(","):
            tests.append(self.read_test())
        return tuple(tests)

    def read_test(self):
        """A test: an expression below the matches, of which not all are let in guards."""
        place = self.place_here()
        form = self.binary(0, EXPRESSION).expression
        if not is_test(form):
            self.note("guard", place)
        return form

    def read_clause(self, patterns):
        """The clause with these patterns, behind which a guard may come, and its body does."""
        guard = self.read_guard() if self.passes("when") else ()
        self.want("->")
        return (patterns, guard, self.read_body())

    def read_clauses(self):
        """One clause or more, each with one pattern."""
        clauses = [self.read_clause((self.read_pattern(),))]
        while self.passes(";"):
            clauses.append(self.read_clause((self.read_pattern(),)))
        return tuple(clauses)

    def read_caught_clauses(self):
        """One clause or more of a catch."""
        clauses = [self.read_clause(self.read_caught())]
        while self.passes(";"):
            clauses.append(self.read_clause(self.read_caught()))
        return tuple(clauses)

    def read_caught(self):
        """The two patterns of a catch's clause."""
        first = self.read_pattern()
        if first[0] in CLASS_KINDS and self.passes(":"):
            return (first, self.read_pattern())
        return (("atom", "throw"), first)

    def read_head(self):
        """The patterns of a head, within round signs."""
        self.want("(")
        patterns = []
        if not self.passes(")"):
            patterns.append(self.read_pattern())
            while self.passes(","):
                patterns.append(self.read_pattern())
            self.want(")")
        return tuple(patterns)

    def read_keyed(self):
        """An expression that begins with a keyed word."""
        kind = self.kind()
        if kind == "begin":
            return self.read_begin()
        if kind == "case":
            return self.read_case()
        if kind == "if":
            return self.read_if()
        if kind == "receive":
            return self.read_receive()
        if kind == "try":
            return self.read_try()
        self.want("fun")
        return self.read_told_function() if self.kind() == ATOM else self.read_fun()

    def read_begin(self):
        """A body between begin and end."""
        self.want("begin")
        body = self.read_body()
        self.want("end")
        return ("do", body)

    def read_case(self):
        """A case."""
        self.want("case")
        subject = self.read_whole()
        self.want("of")
        clauses = self.read_clauses()
        self.want("end")
        return ("case", subject, clauses)

    def read_if(self):
        """An if."""
        self.want("if")
        clauses = [self.read_if_clause()]
        while self.passes(";"):
            clauses.append(self.read_if_clause())
        self.want("end")
        return ("if", tuple(clauses))

    def read_if_clause(self):
        """A clause of an if, which has a guard in any case."""
        guard = self.read_guard()
        self.want("->")
        return ((), guard, self.read_body())

    def read_receive(self):
        """A receive."""
        self.want("receive")
        clauses = () if self.kind() == "after" else self.read_clauses()
        after = ()
        if self.passes("after"):
            time = self.read_whole()
            self.want("->")
            after = (time, self.read_body())
        self.want("end")
        return ("receive", clauses, after)

    def read_try(self):
        """A try."""
        self.want("try")
        body = self.read_body()
        clauses = self.read_clauses() if self.passes("of") else ()
        caught = ()
        after = ()
        if self.passes("catch"):
            caught = self.read_caught_clauses()
            if self.passes("after"):
                after = self.read_body()
        else:
            self.want("after")
            after = self.read_body()
        self.want("end")
        return ("try", body, clauses, caught, after)

    def read_fun(self):
        """A fun, with a name of its own or without, behind its first word."""
        named = self.kind() == NAME
        _, own, clause = self.read_fun_clause(named)
        clauses = [clause]
        while self.passes(";"):
            place, other, clause = self.read_fun_clause(named)
            if other != own or len(clause[0]) != len(clauses[0][0]):
                self.note("fun", place)
            clauses.append(clause)
        self.want("end")
        if named:
            return ("named", own, tuple(clauses))
        return ("fun", tuple(clauses))

    def read_fun_clause(self, named):
        """A clause of a fun: (its place, its own name, the clause)."""
        place = self.place_here()
        own = self.want(NAME) if named else None
        patterns = self.read_head()
        if len(patterns) > MOST_PATTERNS:
            self.note("many", place)
        return (place, own, self.read_clause(patterns))

    def read_told_function(self):
        """A function that is told by its name, behind fun."""
        name = self.want(ATOM)
        if not self.passes(":"):
            return ("local", name, self.read_size())
        far = self.want(ATOM)
        return ("far", name, far, self.read_size())

    def read_size(self):
        """How many arguments a function takes, behind its name."""
        self.want("/")
        return self.read_number(MOST_PATTERNS)

    def read_number(self, most):
        """A number up to this one."""
        place = self.place_here()
        number = self.want(NUMBER)
        if number > most:
            raise BadText(place)
        return number
