"""Placed rows as gates on wires: a block of gates for each move."""

from undocells.basics import is_within
from undocells.cells import cells_needed, check_placed, do_placed
from undocells.errors import BadDone, BadWay
from undocells.gates import back_gates, bits_behind, bits_of_word, check_bits, word_of_bits
from undocells.stepgates import helper_count, step_gates
from undocells.words import check_inputs


class Circuit:
    """Wires of inputs, cells and helpers, in this order, and gates in blocks."""

    def __init__(self, width, many, cells, helpers, gates, ends, result):
        self.width = width
        self.many = many
        self.cells = cells
        self.helpers = helpers
        self.gates = gates
        self.ends = ends
        self.result = result

    @property
    def wires(self):
        """The number of wires."""
        return self.width * (self.many + self.cells) + self.helpers

    @property
    def gates_back(self):
        """The gates in the other order."""
        return back_gates(self.gates)

    def given_wires(self, number):
        """The wires of an input."""
        return wires_from(self.width * number, self.width)

    def cell_wires(self, number):
        """The wires of a cell."""
        return wires_from(self.width * (self.many + number), self.width)

    def helper_wires(self):
        """The wires of the helpers."""
        return wires_from(self.width * (self.many + self.cells), self.helpers)

    def __eq__(self, other):
        return (isinstance(other, Circuit) and self.width == other.width and self.many == other.many
                and self.cells == other.cells and self.helpers == other.helpers and self.gates == other.gates
                and self.ends == other.ends and self.result == other.result)


def wires_from(first, many):
    """So many wires from the first on."""
    return tuple(range(first, first + many))


def operand_bits(operand, cells, plan):
    """The operand bits of a step's operand; cells tells the cell of each held place, plan the wires."""
    name, number = operand
    if name == "number":
        return ["on" if bit else "off" for bit in bits_of_word(number, plan.width)]
    return plan.given_wires(number) if name == "given" else plan.cell_wires(cells[number])


def block_of(step, cell, cells, plan):
    """The gates that turn a cell by the word of a step."""
    operands = [operand_bits(operand, cells, plan) for operand in step.operands]
    helpers = plan.helper_wires()[:helper_count(step.kind, plan.width)]
    return step_gates(step.kind, plan.width, operands, plan.cell_wires(cell), helpers)


def circuit_of(web, placed):
    """The circuit of a placed row that begins at nothing."""
    check_placed(web.bare, placed, ())
    helpers = max([helper_count(step.kind, web.width) for step in web.steps])
    plan = Circuit(web.width, web.many, cells_needed(placed), helpers, (), (), None)
    gates, ends, known, cells, taken = [], [], {}, {}, {}
    for move in placed:
        place, cell = move
        # a block depends on its cell and those of the befores alone
        key = (place, cell, tuple([cells[before] for before in web.bare.befores[place]]))
        if key not in known:
            known[key] = block_of(web.steps[place], cell, cells, plan)
        gates.extend(known[key])
        ends.append(len(gates))
        do_placed(cells, taken, move)
    return Circuit(web.width, web.many, plan.cells, helpers, tuple(gates), tuple(ends), cells.get(web.end))


def first_bits(circuit, inputs):
    """The bits of the inputs, all else 0."""
    words = check_inputs(inputs, circuit.many, circuit.width)
    bits = [bit for word in words for bit in bits_of_word(word, circuit.width)]
    return (*bits, *[0] * (circuit.wires - len(bits)))


def word_on(bits, wires):
    """The word that stands on wires."""
    return word_of_bits([bits[wire] for wire in wires])


def words_on(circuit, bits):
    """The words of the inputs, those of the cells, and the bits of the helpers."""
    carried = check_bits(bits, circuit.wires)
    inputs = [word_on(carried, circuit.given_wires(number)) for number in range(circuit.many)]
    cells = [word_on(carried, circuit.cell_wires(number)) for number in range(circuit.cells)]
    return tuple(inputs), tuple(cells), tuple([carried[wire] for wire in circuit.helper_wires()])


def run_circuit(circuit, inputs):
    """The word of the result behind all gates, or None."""
    bits = bits_behind(first_bits(circuit, inputs), circuit.gates)
    return None if circuit.result is None else word_on(bits, circuit.cell_wires(circuit.result))


def cut_circuit(circuit, inputs, done, way):
    """The bits reached by so many gates, and then back over these or on over the others."""
    first = first_bits(circuit, inputs)
    if not is_within(done, 0, len(circuit.gates)):
        raise BadDone()
    if way not in ("back", "on"):
        raise BadWay()
    stopped = bits_behind(first, circuit.gates[:done])
    if way == "back":
        return bits_behind(stopped, back_gates(circuit.gates[:done]))
    return bits_behind(stopped, circuit.gates[done:])


def turned_circuit(circuit):
    """The circuit with its gates and blocks in the other order, and no result."""
    many = len(circuit.gates)
    ends = [many - end for end in (0, *circuit.ends[:-1])][::-1] if circuit.ends else []
    return Circuit(circuit.width, circuit.many, circuit.cells, circuit.helpers, circuit.gates_back, tuple(ends), None)
