"""Code of the undoable machine made by a fixed rule, its states, and steps by the words of the document."""

from itertools import product

from helpers import Rule
from undocells.coderows import Code

KINDS = (("+",), ("-",), ("*",), ("&",), ("|",), ("^",), ("==",), ("<",), ("<<", 1), (">>", 2), ("table", (3, 1)),
         ("same",), ("pick",))


def told_regions(rows):
    """[11.4] by its words."""
    regions = []
    for at in range(len(rows)):
        above = [k for k in range(at + 1) if rows[k][0] == "enter"]
        nearest = above[-1] if above else None
        if nearest is None or any(rows[k][0] == "leave" for k in range(nearest + 1, at)):
            regions.append(-1)
        else:
            regions.append(rows[nearest][1])
    return tuple(regions)


def is_own(row):
    if row[0] in ("add", "sub", "xor"):
        return ("slot", row[1]) in row[3]
    return row[0] == "swap" and row[1] == row[2]


def is_misplaced(rows, at):
    row = rows[at]
    lefts = [other[1] for other in rows[:at] if other[0] == "leave"]
    enters = [other[1] for other in rows[:at] if other[0] == "enter"]
    if row[0] == "enter":
        following = [other for other in rows[at + 1:] if other[0] in ("enter", "leave")]
        return (at != 0 and rows[at - 1][0] != "leave" or row[1] != len(enters)
                or not following or following[0] != ("leave", row[1]))
    if row[0] == "leave":
        return row[1] not in enters or row[1] in lefts
    return row[0] in ("call", "back") and row[1] not in lefts


def is_partnerless(rows, at, regions):
    row = rows[at]
    if row[0] not in ("go", "come"):
        return False
    if row[2] >= len(rows):
        return True
    other = rows[row[2]]
    wanted = "come" if row[0] == "go" else "go"
    return other[0] != wanted or other[2] != at or regions[at] != regions[row[2]]


def told_fault(rows):
    """[11.4] by its words."""
    regions = told_regions(rows)
    for at, row in enumerate(rows):
        if is_own(row):
            return at, "own"
        if is_misplaced(rows, at):
            return at, "region"
        if is_partnerless(rows, at, regions):
            return at, "partner"
    return None


class Writer:
    """Writes good code by a rule: sections, then main rows; forks join rows of one region at random."""

    def __init__(self, seed, width=None, slots=None):
        self.rule = Rule(seed)
        self.width = width or 1 + self.rule.below(3)
        self.slots = slots if slots is not None else 1 + self.rule.below(3)
        self.rows = []

    def operand(self, barred=()):
        slots = [slot for slot in range(self.slots) if slot not in barred]
        if slots and self.rule.below(3):
            return ("slot", self.rule.one_of(slots))
        return ("number", self.rule.one_of((0, 1, 2, 3, 5, 4095)))

    def test(self):
        return (self.operand(), self.rule.below(2))

    def change(self):
        slot = self.rule.below(self.slots)
        kind = self.rule.one_of(KINDS)
        many = {"pick": 3, "<<": 1, ">>": 1, "table": 1, "same": 1}.get(kind[0], 2)
        return (self.rule.one_of(("add", "sub", "xor")), slot, kind, tuple(self.operand((slot,)) for _ in range(many)))

    def row(self, sections):
        choice = self.rule.below(9)
        if choice < 3 and self.slots:
            return self.change()
        if choice == 3 and self.slots > 1:
            one = self.rule.below(self.slots)
            return ("swap", one, (one + 1 + self.rule.below(self.slots - 1)) % self.slots)
        if choice == 4 and self.slots and self.rule.below(3) == 0:
            return ("zero", self.rule.below(self.slots))
        if choice < 7 and sections:
            return (self.rule.one_of(("call", "back")), self.rule.below(sections))
        return None

    def region(self, sections, most):
        """Rows of one region; couples of empty ones become partners."""
        first = len(self.rows)
        self.rows += [self.row(sections) for _ in range(self.rule.below(most + 1))]
        empty = [at for at in range(first, len(self.rows)) if self.rows[at] is None]
        while len(empty) > 1:
            one = empty.pop(0)
            other = empty.pop(self.rule.below(len(empty)))
            if self.rule.below(2):
                one, other = other, one
            test = self.test()
            self.rows[one] = ("go", test, other)
            self.rows[other] = ("come", test if self.rule.below(3) else self.test(), one)
        for at in empty:
            self.rows[at] = ("call", self.rule.below(sections)) if sections else ("zero", 0)

    def code(self, most_sections=3, most=6):
        sections = self.rule.below(most_sections + 1)
        for section in range(sections):
            self.rows.append(("enter", section))
            self.region(section, most)
            self.rows.append(("leave", section))
        self.region(sections, most + 2)
        names = [f"n{k}" for k in range(self.rule.below(self.slots + 1))]
        origins = [(k,) for k in range(len(self.rows))] if self.rule.below(2) else ()
        return Code(self.width, names, self.slots, self.rows, origins)


def good_code(seed, width=None, slots=None, most_sections=3, most=6):
    return Writer(seed, width, slots).code(most_sections, most)


def branches_of(code):
    """All branches of a code, each with its gaps."""
    spans = {rows[1]: (at, code.rows.index(("leave", rows[1]))) for at, rows in enumerate(code.rows)
             if rows[0] == "enter"}
    last = max([leave + 1 for _, leave in spans.values()], default=0)
    found, waiting = [], [((), last, len(code.rows))]
    while waiting:
        branch, first, end = waiting.pop()
        found.append((branch, range(first, end + 1)))
        for at in range(first, end):
            if code.rows[at][0] in ("call", "back"):
                enter, leave = spans[code.rows[at][1]]
                waiting.append((branch + (at,), enter + 1, leave))
    return found


def all_states(code):
    """All states as tuples (gap, way, branch, words)."""
    for branch, gaps in branches_of(code):
        for gap in gaps:
            for way in (1, -1):
                for words in product(range(2 ** code.width), repeat=code.slots):
                    yield gap, way, branch, words


class Wall(Exception):
    """A step that cannot be made: the row and the word that stop it, or the way of a halted state."""


def word_of(operand, words, width):
    return words[operand[1]] if operand[0] == "slot" else operand[1] % 2 ** width


def is_so(test, words, width):
    worth = word_of(test[0], words, width)
    return worth != 0 if test[1] == 1 else worth == 0


def told_change(row, words, way, width):
    """The words behind a row that changes them, by an account of its own."""
    words = list(words)
    if row[0] == "swap":
        words[row[1]], words[row[2]] = words[row[2]], words[row[1]]
        return tuple(words)
    a, b, c = ([word_of(operand, words, width) for operand in row[3]] + [0, 0])[:3]
    kind = row[2]
    worth = {"+": a + b, "-": a - b, "*": a * b, "&": a & b, "|": a | b, "^": a ^ b, "==": int(a == b),
             "<": int(a < b), "pick": b if a else c, "same": a}.get(kind[0])
    if kind[0] == "<<":
        worth = a << kind[1]
    if kind[0] == ">>":
        worth = a >> kind[1]
    if kind[0] == "table":
        worth = kind[1][a % len(kind[1])]
    worth %= 2 ** width
    old = words[row[1]]
    change = {"add": old + way * worth, "sub": old - way * worth, "xor": old ^ worth}[row[0]]
    words[row[1]] = change % 2 ** width
    return tuple(words)


def told_step(code, state):
    """[12.3] by its words, on tuples (gap, way, branch, words)."""
    gap, way, branch, words = state
    rows, width = code.rows, code.width
    start = max([at + 1 for at, row in enumerate(rows) if row[0] == "leave"], default=0)
    if way == 1 and gap == len(rows) or way == -1 and gap == start and branch == ():
        raise Wall("halted", way)
    r = gap if way == 1 else gap - 1
    row, behind = rows[r], gap + way
    if row[0] in ("add", "sub", "xor", "swap"):
        return behind, way, branch, told_change(row, words, way, width)
    if row[0] == "zero":
        if words[row[1]] != 0:
            raise Wall(r, "zero")
        return behind, way, branch, words
    if row[0] in ("go", "come"):
        if not is_so(row[1], words, width):
            return behind, way, branch, words
        if row[0] == ("come" if way == 1 else "go"):
            raise Wall(r, row[0])
        partner = row[2]
        if not is_so(rows[partner][1], words, width):
            raise Wall(partner, "come" if way == 1 else "go")
        return (partner + 1 if way == 1 else partner), way, branch, words
    if row[0] in ("call", "back"):
        enter, leave = rows.index(("enter", row[1])), rows.index(("leave", row[1]))
        way = way if row[0] == "call" else -way
        return (enter + 1 if way == 1 else leave), way, branch + (r,), words
    c = branch[-1]
    if row[0] == "leave":
        return (c + 1, 1, branch[:-1], words) if rows[c][0] == "call" else (c, -1, branch[:-1], words)
    return (c, -1, branch[:-1], words) if rows[c][0] == "call" else (c + 1, 1, branch[:-1], words)
