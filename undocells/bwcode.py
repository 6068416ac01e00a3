"""Programs of the language of both ways made into code of the undoable machine, and code turned about."""

from undocells.bwprogs import parts_of
from undocells.coderows import MOST_ROWS, Code
from undocells.errors import TooMany
from undocells.words import check_width

ALWAYS = (("number", 1), 1)
TURNED_ROWS = {"add": "sub", "sub": "add", "go": "come", "come": "go", "enter": "leave", "leave": "enter"}


def operations_in(expression):
    """How many operations stand in an expression."""
    if expression[0] != "op":
        return 0
    return 1 + sum([operations_in(part) for part in expression[2]])


def most_operations(body):
    """The most operations of one expression in the statements of a body."""
    most = 0
    for statement in body:
        for expression in parts_of(statement, "e"):
            most = max(most, operations_in(expression))
        for block in parts_of(statement, "b"):
            most = max(most, most_operations(block))
    return most


def locals_within(body):
    """How many locals stand within one another in the statements of a body, at most."""
    most = 0
    for statement in body:
        own = int(statement[0] == "local")
        for block in parts_of(statement, "b"):
            most = max(most, own + locals_within(block))
    return most


class Pen:
    """Code as it is written: its rows with their origins, and the slots that are dealt out."""

    def __init__(self, program):
        self.written = []
        self.origins = []
        self.numbers = {routine[0]: number for number, routine in enumerate(program.routines)}
        self.handed = []
        self.local_slots = []
        dealt = len(program.names)
        for number, (_, parameters, body) in enumerate(program.routines):
            first = 0
            if number < len(program.routines) - 1:
                first = dealt
                dealt += len(parameters)
            self.handed.append(range_of(first, len(parameters)))
            self.local_slots.append(dealt)
            dealt += locals_within(body)
        self.scratch = dealt
        self.slots = dealt + max([most_operations(routine[2]) for routine in program.routines])

    def put(self, where, row):
        """Write one row, and tell its number."""
        if len(self.written) == MOST_ROWS:
            raise TooMany(MOST_ROWS)
        self.written.append(row)
        self.origins.append(where)
        return len(self.written) - 1

    def put_all(self, where, rows):
        """Write rows."""
        for row in rows:
            self.put(where, row)

    def leave_out(self, where):
        """Leave a row out that is filled in later, and tell its number."""
        return self.put(where, ())

    def pair_up(self, go, come, go_test, come_test):
        """Fill two rows in as partners."""
        self.written[go] = ("go", go_test, come)
        self.written[come] = ("come", come_test, go)

    def work_out(self, expression, slots):
        """(operand, rows): the rows work the operations of an expression out, each into a scratch slot."""
        rows = []
        return self.lay_out(expression, slots, rows), rows

    def lay_out(self, expression, slots, rows):
        """The operand that an expression is once these rows, which grow, are done."""
        if expression[0] == "number":
            return expression
        if expression[0] == "name":
            return ("slot", slots[expression[1]])
        operands = tuple([self.lay_out(part, slots, rows) for part in expression[2]])
        slot = self.scratch + len(rows)
        rows.append(("xor", slot, expression[1], operands))
        return ("slot", slot)


def range_of(first, many):
    """So many numbers from the first on."""
    return tuple(range(first, first + many))


def code_of(program, width):
    """Good code for a program: a section for each routine but the last, whose rows are the main rows."""
    check_width(width)
    pen = Pen(program)
    last = len(program.routines) - 1
    for number, (_, parameters, body) in enumerate(program.routines):
        slots = dict(zip(parameters, pen.handed[number]))
        if number < last:
            pen.put((number,), ("enter", number))
        write_block(pen, body, (number,), slots, pen.local_slots[number])
        if number < last:
            pen.put((number,), ("leave", number))
    return Code(width, program.names, pen.slots, pen.written, pen.origins)


def write_block(pen, body, where, slots, free):
    """Write the statements of a block; free is the first slot for its locals."""
    for index, statement in enumerate(body):
        write_statement(pen, statement, (*where, index), slots, free)


def write_statement(pen, statement, where, slots, free):
    """Write one statement."""
    word = statement[0]
    if word in ("call", "back"):
        write_handing(pen, statement, where, slots)
    elif word == "swap":
        pen.put(where, ("swap", slots[statement[1]], slots[statement[2]]))
    elif word == "if":
        write_if(pen, statement, where, slots, free)
    elif word == "from":
        write_from(pen, statement, where, slots, free)
    elif word == "local":
        write_local(pen, statement, where, slots, free)
    else:
        write_change(pen, where, (word, slots[statement[1]]), statement[2], slots)


def write_change(pen, where, head, expression, slots):
    """Write the change of a slot, both told by the head, by an expression."""
    operand, rows = pen.work_out(expression, slots)
    kind, operands = ("same",), (operand,)
    if rows:
        # the last operation need not be worked out: it is the change itself
        _, _, kind, operands = rows.pop()
    pen.put_all(where, rows)
    pen.put(where, (*head, kind, operands))
    pen.put_all(where, rows[::-1])


def write_handing(pen, statement, where, slots):
    """Write a call or back: the handed words are exchanged with the parameters before and behind it."""
    word, name, names = statement
    number = pen.numbers[name]
    swaps = [("swap", slots[handed], slot) for handed, slot in zip(names, pen.handed[number])]
    pen.put_all(where, swaps)
    pen.put(where, (word, number))
    pen.put_all(where, swaps)


def write_if(pen, statement, where, slots, free):
    """Write an if. Scratch slots are empty in its blocks, so each test is worked out back on both roads."""
    _, first, yes, no, last = statement
    begin, begin_rows = pen.work_out(first, slots)
    end, end_rows = pen.work_out(last, slots)
    pen.put_all(where, begin_rows)
    forked = pen.leave_out(where)
    pen.put_all(where, begin_rows[::-1])
    write_block(pen, yes, (*where, 0), slots, free)
    pen.put_all(where, end_rows)
    leaving = pen.leave_out(where)
    pen.pair_up(forked, pen.leave_out(where), (begin, 0), (begin, 0))
    pen.put_all(where, begin_rows[::-1])
    write_block(pen, no, (*where, 1), slots, free)
    pen.put_all(where, end_rows)
    pen.pair_up(leaving, pen.leave_out(where), ALWAYS, (end, 1))
    pen.put_all(where, end_rows[::-1])


def write_from(pen, statement, where, slots, free):
    """Write a from: the road back to its beginning leads past the test that must not hold there."""
    _, first, body, again, last = statement
    begin, begin_rows = pen.work_out(first, slots)
    end, end_rows = pen.work_out(last, slots)
    pen.put_all(where, begin_rows)
    beginning = pen.leave_out(where)
    pen.put_all(where, begin_rows[::-1])
    write_block(pen, body, (*where, 0), slots, free)
    pen.put_all(where, end_rows)
    leaving = pen.leave_out(where)
    pen.put_all(where, end_rows[::-1])
    write_block(pen, again, (*where, 1), slots, free)
    pen.put_all(where, begin_rows)
    pen.pair_up(pen.leave_out(where), beginning, ALWAYS, (begin, 0))
    pen.pair_up(leaving, pen.leave_out(where), (end, 1), (end, 1))
    pen.put_all(where, end_rows[::-1])


def write_local(pen, statement, where, slots, free):
    """Write a local. Its slot is checked on both sides, as it may be passed either way."""
    _, name, first, body, last = statement
    inner = dict(slots)
    inner[name] = free
    pen.put(where, ("zero", free))
    write_change(pen, where, ("xor", free), first, slots)
    write_block(pen, body, (*where, 0), inner, free + 1)
    write_change(pen, where, ("xor", free), last, slots)
    pen.put(where, ("zero", free))


def regions_along(code):
    """The first and the last row of each section, then those of the main rows."""
    return (*code.spans, (code.start, len(code) - 1))


def turned_row(row, total):
    """A row turned about within a region whose first and last row's numbers come to this total."""
    word = TURNED_ROWS.get(row[0], row[0])
    if row[0] in ("go", "come"):
        return (word, row[1], total - row[2])
    return (word, *row[1:])


def turned_code(code):
    """Good code turned about within each section and within the main rows."""
    rows, origins = [], []
    for first, last in regions_along(code):
        for number in range(last, first - 1, -1):
            rows.append(turned_row(code.rows[number], first + last))
            if code.origins:
                origins.append(code.origins[number])
    return Code(code.width, code.names, code.slots, rows, origins)
