"""Runs of all that was made of a text, stopped at any moment and led back or on."""

from undocells.basics import is_within
from undocells.bwprogs import Program
from undocells.bwrun import run_both
from undocells.cells import last_holding, placed_back
from undocells.circuits import cut_circuit, first_bits, words_on
from undocells.cuts import cut_run
from undocells.emit import words_held
from undocells.errors import BadDone, BadLayer, BadWay
from undocells.gates import bits_behind
from undocells.machine import MOST_STEPS, Machine
from undocells.states import start_state
from undocells.turnabout import turned_about
from undocells.words import check_inputs

LAYERS = ("row", "statements", "code", "gates")


def cells_of(made):
    """How many cells there are."""
    return len(made.statements.names) - made.web.many


def parted(made, words):
    """The words of the inputs and those of the cells."""
    many = made.web.many
    return words[:many], words[many:many + cells_of(made)]


def begun_words(made, inputs):
    """The inputs and empty cells."""
    return (*inputs, *[0] * cells_of(made))


def checked_begin(made, layer, inputs):
    """The inputs, if there is such a layer and they are the web's."""
    if layer not in LAYERS:
        raise BadLayer()
    return check_inputs(inputs, made.web.many, made.web.width)


def checked_done(made, layer, inputs, done):
    """The inputs, if a run of the layer has so many steps."""
    words = checked_begin(made, layer, inputs)
    if not is_within(done, 0, many_steps(made, layer, words)):
        raise BadDone()
    return words


def begun_machine(made, inputs):
    """The machine ahead of its first step."""
    return Machine(made.code, start_state(made.code, begun_words(made, inputs)))


def many_steps(made, layer, inputs):
    """How many steps a whole run of a layer has."""
    words = checked_begin(made, layer, inputs)
    if layer == "row":
        return len(made.placed)
    if layer == "statements":
        return len(made.statements.routines[-1][2])
    return begun_machine(made, words).run(MOST_STEPS) if layer == "code" else len(made.circuit.gates)


def run_part(made, first, last):
    """The program of the statements from the first to ahead of the last."""
    name, parameters, body = made.statements.routines[-1]
    return Program([*made.statements.routines[:-1], (name, parameters, body[first:last])])


def words_cut(made, layer, inputs, done):
    """The words of the inputs and of the cells behind so many steps."""
    words = checked_done(made, layer, inputs, done)
    if layer == "row":
        holding = last_holding(made.web.bare, made.placed[:done])
        return parted(made, words_held(made.web, words, holding, cells_of(made)))
    if layer == "statements":
        return parted(made, run_both(run_part(made, 0, done), made.web.width, begun_words(made, words)))
    if layer == "code":
        machine = begun_machine(made, words)
        machine.advance(done)
        return parted(made, machine.words)
    return words_on(made.circuit, bits_behind(first_bits(made.circuit, words), made.circuit.gates[:done]))[:2]


def cut_made(made, layer, inputs, done, way):
    """The words of the inputs and of the cells at the very beginning or end, led there behind so many steps."""
    words = checked_done(made, layer, inputs, done)
    if way not in ("back", "on"):
        raise BadWay()
    if layer == "row":
        return row_led(made, words, done, way)
    if layer == "statements":
        return statements_led(made, words, done, way)
    if layer == "code":
        outer = -1 if way == "back" else 1
        return parted(made, cut_run(made.code, begun_words(made, words), done, outer, MOST_STEPS).words)
    return words_on(made.circuit, cut_circuit(made.circuit, words, done, way))[:2]


def row_led(made, inputs, done, way):
    """The words where a row is led that was stopped behind so many moves."""
    begun = made.placed[:done]
    rest = placed_back(begun) if way == "back" else made.placed[done:]
    holding = last_holding(made.web.bare, rest, last_holding(made.web.bare, begun))
    return parted(made, words_held(made.web, inputs, holding, cells_of(made)))


def statements_led(made, inputs, done, way):
    """The words where a program is led that was stopped behind so many statements."""
    begun = run_part(made, 0, done)
    stopped = run_both(begun, made.web.width, begun_words(made, inputs))
    rest = turned_about(begun) if way == "back" else run_part(made, done, None)
    return parted(made, run_both(rest, made.web.width, stopped))
