"""Section 16 word for word: what rows want, and which notes they make; and code by random that is nearly right."""

from arrivalmill.rows import Code

CALLS = ("call", "outer", "apply", "spread", "outspread")
LASTS = ("last", "outlast", "applast", "spreadlast", "outspreadlast")
DEEDS = ("link", "spawn", "monotonic_time", "!", "whereis")


def places(code):
    return {row[1]: number for number, row in enumerate(code.rows) if row[0] == "label"}


def reads(row):
    """All registers and constants that a row reads."""
    word, rest = row[0], [part for part in row[1:]]
    arguments = lambda many: ["x" + str(number) for number in range(many)]
    if word in ("move", "head", "tail"):
        return rest[:1]
    if word == "test":
        return rest[2:]
    if word in ("size", "takes"):
        return rest[1:2]
    if word in ("same", "unlike", "less", "atmost"):
        return rest[1:]
    if word == "pick":
        return rest[1:2]
    if word == "part":
        return rest[:1]
    if word == "key":
        return rest[1:3]
    if word == "cell":
        return rest[:2]
    if word == "tuple":
        return rest[1:]
    if word == "do":
        return rest[2:]
    if word == "guard":
        return rest[3:]
    if word == "fun":
        return rest[4:]
    if word in ("call", "last"):
        return arguments(row[2])
    if word in ("outer", "outlast"):
        return arguments(row[1] + 2)
    if word in ("apply", "applast"):
        return arguments(row[1] + 1)
    if word in ("spread", "spreadlast"):
        return arguments(2)
    if word in ("outspread", "outspreadlast"):
        return arguments(3)
    if word == "return":
        return ["x0"]
    if word in ("raise",):
        return rest
    if word == "fail":
        return rest[1:]
    if word == "wait":
        return rest[1:]
    return []


def target(row):
    at = {"move": 2, "part": 3, "head": 2, "tail": 2, "key": 4, "cell": 3, "tuple": 1, "do": 2, "guard": 3, "fun": 4, "own": 1}.get(row[0])
    return [] if at is None else [row[at]]


def leads(code, label):
    at = places(code)[label]
    while at < len(code.rows) and code.rows[at][0] == "label":
        at += 1
    return at


def pair_of(code, number):
    """Whether a look and a wait stand by one another."""
    row = code.rows[number]
    other = leads(code, row[1])
    if other >= len(code.rows) or {row[0], code.rows[other][0]} != {"look", "wait"}:
        return False
    return leads(code, code.rows[other][1]) == number


def has_next(row):
    return row[0] not in ("jump", "pick", "return", "raise", "fail", "pass", *LASTS) and not (row[0] == "wait" and len(row) == 2)


def kind(code, note, source):
    if source[0] == "c":
        term = code.constants[int(source[1:])]
        if isinstance(term, tuple) and term[0] == "tuple":
            return ("tuple", len(term) - 1)
        return "cell" if isinstance(term, tuple) and term[0] in ("list", "odd") and len(term) > 1 else None
    return note["kinds"].get(source)


def met(code, number, note):
    """Whether what a row wants is so."""
    row, word = code.rows[number], code.rows[number][0]
    tries = [slot for slot, _ in note["tries"]]
    for one in reads(row):
        if one[0] == "x" and int(one[1:]) not in note["set"] or one[0] == "y" and int(one[1:]) not in note["full"]:
            return False
    slots = [int(one[1:]) for one in target(row) if one[0] == "y"]
    if word in ("clear", "try"):
        slots += [int(one[1:]) for one in row[1:] if isinstance(one, str)]
    if any(note["frame"] is None or slot >= note["frame"] or slot in tries for slot in slots):
        return False
    if word == "part" and not (isinstance(kind(code, note, row[1]), tuple) and kind(code, note, row[1])[1] > row[2]):
        return False
    if word in ("head", "tail") and kind(code, note, row[1]) != "cell":
        return False
    if word in ("frame", "return", *LASTS) and note["frame"] is not None:
        return False
    if word == "unframe" and (note["frame"] is None or tries):
        return False
    if word in (*CALLS, "do", "guard", "fun", "own", "room", "look", "pass", "wait"):
        if any(slot not in note["full"] and slot not in tries for slot in range(note["frame"] or 0)):
            return False
    if word == "room" and not set(range(row[2])) <= note["set"]:
        return False
    deed = word == "do" and row[1] in DEEDS
    if (deed or word in ("return", "look", "wait", *CALLS, *LASTS)) and note["hand"] is not None:
        return False
    if word in ("take", "pass") and note["hand"] is None:
        return False
    if word == "pass" and leads(code, row[1]) != note["hand"]:
        return False
    if word in ("look", "wait") and not pair_of(code, number):
        return False
    if word == "untry" and (not tries or "y" + str(tries[-1]) != row[1]):
        return False
    if word == "cell" and note["room"] < 2 or word == "tuple" and note["room"] < len(row) - 1:
        return False
    return not has_next(row) or number + 1 < len(code.rows)


def makes(code, number, note):
    """The notes that a row makes: pairs (row, note), several of one row as they are."""
    row, word = code.rows[number], code.rows[number][0]
    found = []
    labels = [part for part in row[1:] if isinstance(part, int)]
    at = {"jump": labels[:1], "test": labels[:1], "size": labels[:1], "takes": labels[:1], "same": labels, "unlike": labels, "less": labels, "atmost": labels, "pick": labels, "key": labels, "guard": labels, "look": labels, "pass": labels, "wait": labels}
    for label in at.get(word, []):
        found.append((places(code)[label], behind(code, number, note, False)))
    if has_next(row) and number + 1 < len(code.rows):
        found.append((number + 1, behind(code, number, note, True)))
    if note["tries"] and (word in ("do", "raise", "fail", *CALLS) or word == "wait" and len(row) == 3):
        kinds = {one: told for one, told in note["kinds"].items() if one[0] == "y"}
        found.append((places(code)[note["tries"][-1][1]], {"set": {0, 1}, "frame": note["frame"], "full": set(note["full"]), "kinds": kinds, "tries": note["tries"][:-1], "hand": None, "room": 0}))
    return found


def behind(code, number, note, is_next):
    row, word = code.rows[number], code.rows[number][0]
    told = {"set": set(note["set"]), "frame": note["frame"], "full": set(note["full"]), "kinds": dict(note["kinds"]), "tries": note["tries"], "hand": note["hand"], "room": note["room"]}
    if word in CALLS or word == "look" and is_next:
        told["set"], told["kinds"] = {0}, {one: known for one, known in told["kinds"].items() if one[0] == "y"}
    if word == "wait" or word == "look" and not is_next:
        told["set"] = set()
    if word == "room":
        told["set"] = set(range(row[2]))
        told["room"] = row[1]
    if word == "pass":
        told["set"] -= {0}
    if word in (*CALLS, "do", "guard", "fun", "own", "look", "wait"):
        told["room"] = 0
    if word == "cell":
        told["room"] -= 2
    if word == "tuple":
        told["room"] -= len(row) - 1
    if word == "frame":
        told["frame"], told["full"] = row[1], set()
    if word == "unframe":
        told["frame"], told["full"] = None, set()
    if word == "try":
        slot = int(row[1][1:])
        told["tries"] += ((slot, row[2]),)
        told["full"] -= {slot}
    if word == "untry":
        told["tries"] = told["tries"][:-1]
    if word == "look":
        told["hand"] = number if is_next else None
    if word in ("take", "pass"):
        told["hand"] = None
    known = {}
    if is_next:
        for one in target(row) + (list(row[1:]) if word == "clear" else []):
            told["set" if one[0] == "x" else "full"].add(int(one[1:]))
            known[one] = {"cell": lambda: "cell", "tuple": lambda: ("tuple", len(row) - 2), "move": lambda: kind(code, note, row[1])}.get(word, lambda: None)()
        if word == "test" and row[1] == "cell" and row[3][0] != "c":
            known[row[3]] = "cell"
        if word == "size" and row[2][0] != "c":
            known[row[2]] = ("tuple", row[3])
    told["kinds"] = {one: made for one, made in {**told["kinds"], **known}.items() if made is not None and int(one[1:]) in told["set" if one[0] == "x" else "full"]}
    return told


def both(notes):
    """What several notes of one frame, tries and hand all tell."""
    kinds = {}
    for one, known in notes[0]["kinds"].items():
        told = [note["kinds"].get(one) for note in notes]
        if all(part == known for part in told):
            kinds[one] = known
        elif all(isinstance(part, tuple) for part in told):
            kinds[one] = min(told)
    return {**notes[0], "set": set.intersection(*[note["set"] for note in notes]), "full": set.intersection(*[note["full"] for note in notes]), "kinds": kinds, "room": min(note["room"] for note in notes)}


def first(many):
    return {"set": set(range(many)), "frame": None, "full": set(), "kinds": {}, "tries": (), "hand": None, "room": 0}


def shown(note):
    """A note as the program tells it."""
    kinds = tuple(sorted(note["kinds"].items(), key=lambda pair: (pair[0][0], int(pair[0][1:]))))
    return (tuple(sorted(note["set"])), note["frame"], tuple(sorted(note["full"])), kinds, note["tries"], note["hand"], note["room"])


def begin(code):
    """The beginnings: pairs of row and number of arguments."""
    at = places(code)
    found = {(at[label], many) for _, many, label in code.entries}
    for row in code.rows:
        if row[0] in ("call", "last"):
            found.add((at[row[1]], row[2]))
        if row[0] == "fun":
            found.add((at[row[2]], row[3] + len(row) - 5))
    return sorted(found)


def drawn(rng, most=22):
    """Code by random whose rows are made to fit what was made ahead of them, but for a slip now and then."""
    rows, frame, tries, looked = ["label 0"], None, [], 0
    set_x, full, label = [0], [], 1
    ends = []
    def source():
        return rng.choice(["c0", "c1"] + ["x" + str(one) for one in set_x] * 2 + ["y" + str(one) for one in full] * 2 + (["x9"] if rng.random() < 0.02 else []))
    def goal():
        return rng.choice(["x0", "x1", "x2"] + ["y" + str(one) for one in range(frame or 0) if one not in [slot for slot, _ in tries]] * 2)
    for _ in range(rng.randint(3, most)):
        word = rng.choice(("move", "test", "size", "part", "head", "tail", "key", "room", "cell", "tuple", "do", "guard", "frame", "unframe", "clear", "call", "try", "untry", "look", "label", "jump", "fun", "own", "same", "pick", "deed", "fail"))
        here, one = "label" if rng.random() < 0.5 else "", goal()
        back = rng.choice(ends) if ends and rng.random() < 0.4 else label
        if word == "move":
            rows.append(f"move {source()} {one}")
        elif word in ("head", "tail", "part"):
            what = source()
            rows.append(f"test cell {back} {what}" if word != "part" else f"size {back} {what} 2")
            rows.append(f"{word} {what} {'1 ' if word == 'part' else ''}{one}")
            ends.append(back)
        elif word == "key":
            rows.append(f"key {back} {source()} {source()} {one}")
            ends.append(back)
        elif word in ("test", "size", "same"):
            rows.append({"test": f"test tuple {back} {source()}", "size": f"size {back} {source()} 1", "same": f"same {back} {source()} {source()}"}[word])
            ends.append(back)
            one = None
        elif word == "pick":
            rows.append(f"pick {back} {source()} c0 {back}")
            ends.append(back)
            rows.append("label " + str(label + 30))
            label += 1
            one = None
        elif word in ("cell", "tuple"):
            many = min(len(set_x), 1)
            rows.append(f"room {rng.choice((2, 3, 5))} {many}")
            set_x = list(range(many))
            rows.append(f"cell {source()} {source()} {one}" if word == "cell" else f"tuple {one} {source()} {source()}")
        elif word == "room":
            rows.append(f"room 4 {min(len(set_x), 1)}")
            set_x, one = list(range(min(len(set_x), 1))), None
        elif word in ("do", "deed"):
            rows.append(f"do hd {one} {source()}" if word == "do" else f"do link {one} {source()}")
        elif word == "guard":
            rows.append(f"guard hd {back} {one} {source()}")
            ends.append(back)
        elif word == "own":
            rows.append(f"own {one} f 1")
        elif word == "fun":
            rows.append(f"fun 0 0 0 {one} {source()}")
        elif word == "frame" and (frame is None or rng.random() < 0.02):
            frame, full, one = rng.choice((1, 2)), list(range(2)), None
            full = list(range(frame))
            rows += ["frame " + str(frame), "clear " + " ".join("y" + str(slot) for slot in full)]
        elif word == "unframe" and frame is not None and not tries:
            rows.append("unframe")
            frame, full, one = None, [], None
        elif word == "try" and frame is not None and full:
            slot = rng.choice(full)
            rows.append(f"try y{slot} {label}")
            tries.append((slot, label))
            ends.append(label)
            full, one = [other for other in full if other != slot], None
        elif word == "untry" and tries:
            slot, _ = tries.pop()
            rows += [f"untry y{slot}", f"clear y{slot}"]
            full, one = sorted(full + [slot]), None
        elif word == "call":
            rows.append("move c0 x0")
            rows.append("call 0 1")
            set_x, one = [0], None
        elif word == "look":
            rows += [f"label {20 + looked}", f"look {25 + looked}", f"test atom {28 + looked} x0", "take", f"jump {60 + looked}", f"label {28 + looked}", f"pass {20 + looked}", f"label {25 + looked}", f"wait {20 + looked}" + rng.choice(("", " c0")),
                     "move c0 x0", f"label {60 + looked}", "move c0 x0"]
            looked += 1
            set_x, one = [0], None
            if looked > 2:
                break
        elif word == "label":
            rows.append("label " + str(label))
            ends = [end for end in ends if end != label]
            label, one = label + 1, None
            set_x = [0]
            rows.append("move c0 x0")
        elif word == "jump" and ends:
            rows.append("jump " + str(rng.choice(ends)))
            rows.append("label " + str(label + 30))
            label, one = label + 1, None
        else:
            one = None
        if one is not None:
            number = int(one[1:])
            if one[0] == "x":
                set_x = sorted(set(set_x + [number]))
    if frame is not None and not tries:
        rows.append("unframe")
    rows += ["move c0 x0", "return"]
    for end in sorted(set(ends)):
        if "label " + str(end) not in rows:
            rows += ["label " + str(end), rng.choice(("fail if_clause", "fail if_clause", "return", "jump 0"))]
    text = "\n".join(("code m", "const 0 a", "const 1 {a,b}", "entry f 1 0", *rows))
    return slipped(rng, text)


def slipped(rng, text):
    """Code of this text, some times with a row out, twice or exchanged."""
    if rng.random() < 0.5:
        return Code(text)
    lines = text.split("\n")
    at = rng.randrange(5, len(lines))
    way = rng.randint(0, 2)
    if lines[at].startswith("label") or way == 1 and at + 1 == len(lines):
        return Code(text)
    if way == 0 and at + 1 < len(lines):
        del lines[at]
    elif way == 1:
        lines[at], lines[at + 1] = lines[at + 1], lines[at]
    else:
        lines.insert(at, lines[at])
    return Code("\n".join(lines))
