"""Plans of supervisors: which terms are plans, and what is begun and ended by one when workers fall."""

from arrivalmill.shapes import is_kind, is_list
from arrivalmill.signs import is_atom, is_count

WAYS = ("one", "all", "rest")
STAYS = ("always", "faults", "never")
MOST_RESTARTS = 5
MOST_SPAN = 60
MOST_CHILDREN = 6
MOST_LIMIT = 60
DEEPEST = 4
FINE_REASONS = ("normal", "shutdown")
# What workers have in the place of a plan.
NO_PLAN = ("tuple", "one", 0, 1, ("list",))


def is_plan(term, depth):
    """Whether a term is a plan that stands so deep, the top one at 1."""
    if depth > DEEPEST or not is_kind(term, "tuple") or len(term) != 5:
        return False
    _, way, most, span, children = term
    if way not in WAYS or not is_count(most, 0) or most > MOST_RESTARTS or not is_count(span, 1) or span > MOST_SPAN:
        return False
    if not is_list(children) or len(children) > MOST_CHILDREN + 1:
        return False
    names = []
    for child in children[1:]:
        if not _is_child(child, depth) or child[1] in names:
            return False
        names.append(child[1])
    return True


def _is_child(term, depth):
    if not is_kind(term, "tuple") or len(term) != 5:
        return False
    _, name, stay, limit, what = term
    if not is_atom(name) or stay not in STAYS or not is_kind(what, "tuple"):
        return False
    if len(what) == 4 and what[1] == "worker":
        is_limit = limit == "kill" or (is_count(limit, 0) and limit <= MOST_LIMIT)
        return is_limit and is_atom(what[2]) and is_atom(what[3])
    return len(what) == 3 and what[1] == "keeper" and limit == "long" and is_plan(what[2], depth + 1)


class Member:
    """A keeper or a worker at its place: whether it stands, or was struck; of a keeper its children and restarts."""

    def __init__(self, place, stay, limit, plan):
        self.place = place
        self.stay = stay
        self.limit = limit
        self.stands = False
        self.struck = False
        self.counted = []
        _, self.how, self.most, self.span, children = NO_PLAN if plan is None else plan
        self.children = [_member_of((*place, child[1]), child) for child in children[1:]]


def _member_of(place, child):
    _, _, stay, limit, what = child
    return Member(place, stay, limit, what[2] if what[1] == "keeper" else None)


class House:
    """All that a plan stands for, and what has happened so far."""

    def __init__(self, plan):
        self.highest = Member((), None, None, plan)
        self.rows = []
        self.moment = 0
        self.begin(self.highest)

    def begin(self, member):
        """Begins a member, a keeper with all of its own."""
        self.rows.append(("begin", self.moment, member.place))
        member.stands = True
        member.struck = False
        member.counted = []
        for child in member.children:
            self.begin(child)

    def note_end(self, member, reason):
        """A member ends."""
        member.stands = False
        self.rows.append(("end", self.moment, member.place, reason))

    def strike(self, member):
        """A member is never begun again by this keeper."""
        member.struck = True
        self.rows.append(("struck", self.moment, member.place))

    def end_all(self, members):
        """Ends members that stand on purpose, in the reverse sequence."""
        for member in reversed(members):
            if member.stands:
                self.end_all(member.children)
                self.note_end(member, "killed" if member.limit == "kill" else "shutdown")

    def fall(self, place, reason):
        """The worker at a place ends by itself, if it stands; then its keeper does what it has to."""
        keepers = [self.highest]
        for name in place[:-1]:
            keepers.append(_child_of(keepers[-1], name))
        worker = _child_of(keepers[-1], place[-1])
        if worker.stands:
            self.note_end(worker, reason)
            self.child_ended(keepers, worker, reason)

    def child_ended(self, keepers, child, reason):
        """The last of these keepers, each the child of the one ahead, is told that a child ended by itself."""
        keeper = keepers[-1]
        if child.stay != "always" and (child.stay == "never" or reason in FINE_REASONS):
            self.strike(child)
            return
        keeper.counted.append(self.moment)
        if len([moment for moment in keeper.counted if moment > self.moment - keeper.span]) > keeper.most:
            self.end_all(keeper.children)
            self.note_end(keeper, "shutdown")
            if len(keepers) > 1:
                self.child_ended(keepers[:-1], keeper, "shutdown")
            return
        self.begin_again(keeper, child)

    def begin_again(self, keeper, child):
        """A keeper begins a child again, and what it ends for that."""
        number = keeper.children.index(child)
        others = []
        if keeper.how != "one":
            behind = keeper.children if keeper.how == "all" else keeper.children[number:]
            others = [other for other in behind if other.stands]
        for other in reversed(others):
            self.end_all([other])
            if other.stay == "never":
                self.strike(other)
        for other in keeper.children:
            if other.place == child.place or (not other.struck and other.place in [one.place for one in others]):
                self.begin(other)

    def places_standing(self):
        """The places of all members that stand, ascending."""
        places = []
        waiting = [self.highest]
        while waiting:
            member = waiting.pop()
            if member.stands:
                places.append(member.place)
            waiting.extend(member.children)
        return tuple(sorted(places))


def _child_of(keeper, name):
    for child in keeper.children:
        if child.place[-1] == name:
            return child
    return None


def worker_places(plan, place):
    """The places of all workers of a plan that stands at a place."""
    places = []
    for child in plan[4][1:]:
        inner = (*place, child[1])
        places.extend([inner] if child[4][1] == "worker" else worker_places(child[4][2], inner))
    return places
