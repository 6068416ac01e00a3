"""[12.5]: the machine that stands in a state and changes."""

from bothways import made_routines
from codes import good_code
from helpers import NO_NUMBERS, Checks, Rule
from test_states import CODE, parts
from undocells.bwcode import code_of
from undocells.bwprogs import Program
from undocells.bwread import read_program
from undocells.bwrun import run_both
from undocells.coderows import Code
from undocells.errors import BadFuel, BadState, BadWay, Halted, OutOfFuel, RowStuck, Stuck
from undocells.machine import Machine
from undocells.states import (MachineState, end_state, is_halted, outer_way, start_state, stepped, stepped_back,
                              turned_state)

BAD_FUEL = (-1, 1000001, 10 ** 20, *NO_NUMBERS)
BAD_WAYS = (0, 2, -2, "back", "on", *NO_NUMBERS)


def standing(machine):
    return machine.gap, machine.way, machine.branch, machine.words


def along(code, state, most):
    """The states from one on, and what stops them: None, or the error."""
    states = [state]
    while len(states) <= most:
        try:
            states.append(stepped(code, states[-1]))
        except (Halted, RowStuck) as error:
            return states, error
    return states, None


def begun(times):
    """Good codes, each with a state to begin from."""
    for seed in range(times):
        code = good_code(seed)
        rule = Rule(seed)
        words = tuple(rule.below(2 ** code.width) for _ in code.names)
        state = rule.one_of((start_state, end_state))(code, words)
        yield code, turned_state(state) if state.gap != code.start or rule.below(4) == 0 else state


class Standing(Checks):

    def test_its_attributes_and_properties(self):
        state = MachineState(3, -1, (10, 6), (1, 2, 0))
        machine = Machine(CODE, state)
        self.assertIs(machine.code, CODE)
        self.same(standing(machine), (3, -1, (10, 6), (1, 2, 0)))
        self.assertTrue(machine.state == state)
        self.assertIsInstance(machine.state, MachineState)
        self.same((machine.outer, machine.is_over), (-1, False))
        self.same((Machine(CODE, MachineState(3, 1, (10,) + (7,), (0, 0, 0))).outer), -1)
        self.same(Machine(CODE, end_state(CODE, (1, 2))).is_over, True)

    def test_a_state_that_is_none(self):
        for state, what in ((MachineState(13, 1, (), (0, 0, 0)), "gap"), (MachineState(9, 0, (), (0, 0, 0)), "way"),
                            (MachineState(9, 1, (9,), (0, 0, 0)), "branch"), (MachineState(9, 1, (), [0, 0, 0]), "words")):
            self.fails(BadState(what), Machine, CODE, state)

    def test_states_that_were_told_do_not_change(self):
        machine = Machine(CODE, start_state(CODE, (1, 2)))
        told = machine.state
        machine.step()
        self.same(parts(told), (9, 1, (), (1, 2, 0)))
        self.same(standing(machine), (5, 1, (9,), (1, 2, 0)))


class Steps(Checks):

    def test_step_back_and_turn(self):
        for code, state in begun(150):
            states, error = along(code, state, 60)
            machine = Machine(code, state)
            for told in states:
                self.assertTrue(machine.state == told)
                self.same((machine.outer, machine.is_over), (outer_way(code, told), is_halted(code, told)))
                if told is not states[-1]:
                    self.assertIsNone(machine.step())
            if error is not None:
                self.fails(error, machine.step)
                self.assertTrue(machine.state == states[-1])
            for told in states[:-1][::-1]:
                self.assertIsNone(machine.back())
                self.assertTrue(machine.state == told)
            before = machine.state
            try:
                told = stepped_back(code, before)
                machine.back()
                self.assertTrue(machine.state == told)
            except (Halted, RowStuck) as error:
                self.fails(error, machine.back)
                self.assertTrue(machine.state == before)
            before = machine.state
            self.assertIsNone(machine.turn())
            self.assertTrue(machine.state == turned_state(before))

    def test_halted(self):
        machine = Machine(CODE, end_state(CODE, (1, 2)))
        self.fails(Halted(1), machine.step)
        self.same(standing(machine), (12, 1, (), (1, 2, 0)))
        machine.back()
        self.same(standing(machine), (11, 1, (), (2, 1, 0)))
        machine = Machine(CODE, start_state(CODE, (1, 2)))
        self.fails(Halted(-1), machine.back)
        self.same(standing(machine), (9, 1, (), (1, 2, 0)))


class Runs(Checks):

    def test_it_steps_until_it_is_over(self):
        for code, state in begun(200):
            states, error = along(code, state, 400)
            machine = Machine(code, state)
            if isinstance(error, Halted):
                self.same(machine.run(), len(states) - 1)
            elif isinstance(error, RowStuck):
                self.fails(error, machine.run)
            else:
                self.fails(OutOfFuel(), machine.run, 400)
            self.assertTrue(machine.state == states[min(400, len(states) - 1)])

    def test_just_enough_fuel_one_less_and_none(self):
        many = 0
        for code, state in begun(100):
            states, error = along(code, state, 60)
            if not isinstance(error, Halted):
                continue
            for fuel in range(len(states) - 1):
                machine = Machine(code, state)
                self.fails(OutOfFuel(), machine.run, fuel)
                self.assertTrue(machine.state == states[fuel])
                self.same(machine.run(len(states) - 1 - fuel), len(states) - 1 - fuel)
                self.same(machine.run(0), 0)
                self.same(machine.run(1000000), 0)
                many += 1
        self.assertGreater(many, 100)

    def test_a_row_that_stops_it_where_the_fuel_ends(self):
        code = Code(2, ("x",), 1, (("add", 0, ("same",), (("number", 1),)), ("zero", 0)))
        machine = Machine(code, start_state(code, (1,)))
        self.fails(OutOfFuel(), machine.run, 1)
        self.same(standing(machine), (1, 1, (), (2,)))
        self.fails(OutOfFuel(), machine.run, 0)
        self.fails(RowStuck(1, "zero"), machine.run, 1)
        self.same(standing(machine), (1, 1, (), (2,)))
        self.fails(RowStuck(1, "zero"), machine.led, 1)

    def test_the_fuel_is_100000_unless_told(self):
        rows = [("add", 0, ("same",), (("number", 1),))] * 100000
        code = Code(2, ("x",), 1, rows)
        self.same(Machine(code, start_state(code, (1,))).run(), 100000)
        self.same(Machine(code, start_state(code, (1,))).led(1), 100000)
        rows = [("enter", 0), *rows[:50000], ("leave", 0), ("call", 0), ("call", 0)]
        code = Code(2, ("x",), 1, rows)
        for call in (Machine.run, lambda machine: machine.led(1)):
            machine = Machine(code, start_state(code, (1,)))
            self.fails(OutOfFuel(), call, machine)
            self.same(machine.state.branch, (50003,))
            self.same(call(machine), 4)

    def test_led_both_ways_from_every_step(self):
        for code, state in begun(120):
            if state.way != 1:
                continue
            states, error = along(code, state, 60)
            if not isinstance(error, Halted):
                continue
            for at, told in enumerate(states):
                for first in (told, turned_state(told)):
                    machine = Machine(code, first)
                    self.same(machine.led(1), len(states) - 1 - at)
                    self.assertTrue(machine.state == states[-1])
                    machine = Machine(code, first)
                    self.same(machine.led(-1), at)
                    self.assertTrue(machine.state == turned_state(states[0]))

    def test_in_a_section_that_is_run_back_the_outer_way_counts(self):
        machine = Machine(CODE, MachineState(2, 1, (10, 7), (3, 4, 0)))
        self.same((machine.way, machine.outer), (1, -1))
        machine.led(-1)
        self.same((machine.gap, machine.way, machine.branch), (9, -1, ()))
        machine = Machine(CODE, MachineState(2, 1, (10, 7), (3, 4, 0)))
        machine.led(1)
        self.same((machine.gap, machine.way, machine.branch), (12, 1, ()))

    def test_programs(self):
        for seed in range(60):
            program = Program(made_routines(seed))
            rule = Rule(seed)
            width = 1 + rule.below(12)
            words = tuple(rule.below(2 ** width) for _ in program.names)
            try:
                told = run_both(program, width, words, 400)
            except (Stuck, OutOfFuel):
                continue
            code = code_of(program, width)
            machine = Machine(code, start_state(code, words))
            steps = machine.run()
            self.assertTrue(machine.state == end_state(code, told))
            self.same(machine.led(-1), steps)
            self.assertTrue(machine.state == turned_state(start_state(code, words)))

    def test_wrong_arguments_ahead_of_turning(self):
        machine = Machine(CODE, start_state(CODE, (1, 2)))
        for fuel in BAD_FUEL:
            self.fails(BadFuel(), machine.run, fuel)
            self.fails(BadFuel(), machine.led, -1, fuel)
            self.same(standing(machine), (9, 1, (), (1, 2, 0)))
        for way in BAD_WAYS:
            self.fails(BadWay(), machine.led, way, -1)
            self.same(standing(machine), (9, 1, (), (1, 2, 0)))
        # it turns ahead of running out of fuel
        self.fails(OutOfFuel(), Machine(CODE, end_state(CODE, (1, 2))).led, -1, 0)
        machine = Machine(CODE, end_state(CODE, (1, 2)))
        self.fails(OutOfFuel(), machine.led, -1, 0)
        self.same(standing(machine), (12, -1, (), (1, 2, 0)))
        self.same(Machine(CODE, end_state(CODE, (1, 2))).led(1, 0), 0)

    def test_as_much_fuel_as_is_let(self):
        program = read_program("routine p(x){from x==0{x+=1;}loop{}until x==4000;}")
        code = code_of(program, 12)
        machine = Machine(code, start_state(code, (0,)))
        self.assertGreater(machine.run(1000000), 12000)
        self.same(machine.words[0], 4000)
