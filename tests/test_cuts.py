"""[12.6] and [12.7]: states along a run, runs cut at every step, and how many states there are."""

import inspect

from bothways import made_routines
from codes import all_states, branches_of, good_code
from helpers import NO_NUMBERS, NO_SEQUENCES, Checks, Rule
from test_machine import BAD_FUEL, BAD_WAYS, along
from test_states import CODE, parts
from undocells.bwcode import code_of
from undocells.bwprogs import Program
from undocells.bwread import read_program
from undocells.coderows import Code
from undocells.cuts import cut_run, state_count, states_of
from undocells.errors import (BadDone, BadFuel, BadInputs, BadState, BadWay, Halted, OutOfFuel, RowStuck)
from undocells.states import MachineState, end_state, start_state, turned_state

ADD = ("add", 0, ("same",), (("number", 1),))


def begun(times):
    """Good codes, each with words, the states from the beginning on, and what stops them."""
    for seed in range(times):
        code = good_code(seed)
        rule = Rule(seed)
        words = tuple(rule.below(2 ** code.width) for _ in code.names)
        states, error = along(code, start_state(code, words), 50)
        yield code, words, states, error


class Along(Checks):

    def test_it_is_a_generator(self):
        self.assertTrue(inspect.isgeneratorfunction(states_of))

    def test_up_to_most_steps_or_until_one_is_halted(self):
        for code, _, states, error in begun(250):
            for most in {0, 1, 2, len(states) - 1, len(states), 50}:
                if error is None and most > 50:
                    continue
                walk = states_of(code, states[0], most)
                told = []
                try:
                    for state in walk:
                        told.append(parts(state))
                except RowStuck as stuck:
                    self.assertIsInstance(error, RowStuck)
                    self.same((stuck.row, stuck.what, len(told)), (error.row, error.what, len(states)))
                    self.assertGreaterEqual(most, len(states))
                self.same(told, [parts(state) for state in states[:most + 1]])
                if isinstance(error, RowStuck) and most < len(states):
                    self.assertEqual(len(told), most + 1)

    def test_from_any_state(self):
        state = MachineState(3, -1, (10, 6), (1, 2, 0))
        self.same([parts(told)[:3] for told in states_of(CODE, state, 2)],
                  [(3, -1, (10, 6)), (2, -1, (10, 6)), (1, -1, (10, 6))])
        self.same([parts(told) for told in states_of(CODE, end_state(CODE, (1, 2)), 10 ** 30)], [(12, 1, (), (1, 2, 0))])

    def test_wrong_states(self):
        for state, what in ((MachineState(13, 1, (), (0, 0, 0)), "gap"), (MachineState(9, 0, (), (0, 0, 0)), "way"),
                            (MachineState(9, 1, (9,), (0, 0, 0)), "branch"), (MachineState(9, 1, (), [0, 0, 0]), "words")):
            self.fails(BadState(what), list, states_of(CODE, state, 0))


class Cut(Checks):

    def test_every_cut_leads_back_to_the_beginning_and_on_to_the_end(self):
        whole = 0
        for code, words, states, error in begun(250):
            ended = isinstance(error, Halted)
            for done in range(len(states)):
                back = cut_run(code, words, done, -1)
                self.assertTrue(back == turned_state(states[0]))
                if ended:
                    whole += 1
                    self.assertTrue(cut_run(code, words, done, 1) == states[-1])
                elif error is not None:
                    self.fails(error, cut_run, code, words, done, 1)
            for done in (len(states), len(states) + 1, 1000000):
                if ended:
                    self.assertTrue(cut_run(code, words, done, 1) == states[-1])
                    self.assertTrue(cut_run(code, words, done, -1) == turned_state(states[0]))
                elif error is not None:
                    self.fails(error, cut_run, code, words, done, -1)
        self.assertGreater(whole, 500)

    def test_programs_cut_at_every_step(self):
        for seed in range(40):
            program = Program(made_routines(seed))
            rule = Rule(seed)
            width = 1 + rule.below(12)
            code = code_of(program, width)
            words = tuple(rule.below(2 ** width) for _ in program.names)
            states, error = along(code, start_state(code, words), 300)
            if isinstance(error, Halted):
                for done in range(0, len(states), 1 + len(states) // 20):
                    self.assertTrue(cut_run(code, list(words), done, -1) == turned_state(states[0]))
                    self.assertTrue(cut_run(code, words, done, 1) == states[-1])

    def test_fuel_just_enough_and_one_less(self):
        code = Code(4, ("x",), 1, [ADD] * 10)
        for done in range(11):
            for way, needed in ((1, 10 - done), (-1, done)):
                told = cut_run(code, (3,), done, way, needed)
                self.same(parts(told), (10, 1, (), (13,)) if way == 1 else (0, -1, (), (3,)))
                if needed:
                    self.fails(OutOfFuel(), cut_run, code, (3,), done, way, needed - 1)
        long = Code(4, ("x",), 1, [("enter", 0), *[ADD] * 50000, ("leave", 0), ("call", 0), ("call", 0)])
        self.fails(OutOfFuel(), cut_run, long, (0,), 0, 1)
        self.fails(OutOfFuel(), cut_run, long, (0,), 1000000, -1)
        self.same(parts(cut_run(long, (0,), 1000000, -1, 1000000)), (50002, -1, (), (0,)))
        self.same(parts(cut_run(long, (0,), 4, 1)), (50004, 1, (), (100000 % 16,)))

    def test_the_fuel_is_100000_unless_told(self):
        for many in (49999, 50000):
            # two rows and twice the section, which each end with one more step
            code = Code(4, ("x",), 1, [("enter", 0), *[ADD] * (many - 1), ("leave", 0), ("call", 0), ("call", 0)])
            self.same(len(code) - code.start + 2 * (many - 1) + 2, 2 * many + 2)
            if 2 * many + 2 <= 100000:
                self.same(parts(cut_run(code, (0,), 0, 1))[0], len(code))
                self.same(parts(cut_run(code, (0,), 1000000, -1))[0], code.start)
            else:
                self.fails(OutOfFuel(), cut_run, code, (0,), 0, 1)
                self.fails(OutOfFuel(), cut_run, code, (0,), 1000000, -1)
        odd = Code(4, ("x",), 1, [*[("enter", 0), *[ADD] * 49998, ("leave", 0), ("call", 0), ("call", 0)], ADD])
        self.fails(OutOfFuel(), cut_run, odd, (0,), 0, 1)
        self.same(parts(cut_run(odd, (0,), 1, 1))[0], len(odd))

    def test_wrong_arguments_in_their_order(self):
        for words in NO_SEQUENCES:
            self.fails(BadInputs(-1, "many"), cut_run, CODE, words, None, None, None)
        self.fails(BadInputs(1, "word"), cut_run, CODE, (7, 8), None, None, None)
        for done in (-1, 1000001, *NO_NUMBERS):
            self.fails(BadDone(), cut_run, CODE, (1, 2), done, None, None)
        for way in BAD_WAYS:
            self.fails(BadWay(), cut_run, CODE, (1, 2), 1000000, way, None)
        for fuel in BAD_FUEL:
            self.fails(BadFuel(), cut_run, CODE, (1, 2), 1000000, 1, fuel)
        stuck = Code(4, ("x",), 1, [("zero", 0)])
        self.fails(BadFuel(), cut_run, stuck, (1,), 5, 1, None)
        self.fails(RowStuck(0, "zero"), cut_run, stuck, (1,), 1, 1, 0)
        self.fails(OutOfFuel(), cut_run, stuck, (1,), 0, 1, 0)
        self.fails(RowStuck(0, "zero"), cut_run, stuck, (1,), 0, 1, 1)


class Count(Checks):

    def test_all_states_counted_one_by_one(self):
        for seed in range(300):
            width = 1 + seed % 2
            code = good_code(seed, width, 1 + seed // 2 % (4 - width), 3, 4)
            branches = branches_of(code)
            gaps = sum(len(gaps) for _, gaps in branches)
            self.same(state_count(code), gaps * 2 * 2 ** (width * code.slots))
            if gaps < 60:
                self.same(state_count(code), len(set(all_states(code))))

    def test_no_state_twice_and_fewer_steps_than_states(self):
        for seed in range(200):
            code = good_code(seed, 1, 1 + seed % 2, 2, 4)
            for state in (start_state(code, (1,) * len(code.names)), turned_state(end_state(code, (0,) * len(code.names)))):
                states, error = along(code, state, state_count(code))
                self.assertIsNotNone(error)
                self.assertLess(len(states) - 1, state_count(code))
                told = [parts(state) for state in states]
                self.assertEqual(len(set(told)), len(told))

    def test_by_hand(self):
        self.same(state_count(Code(1, (), 0, ())), 2)
        self.same(state_count(Code(12, (), 1, ())), 2 * 4096)
        self.same(state_count(Code(1, ("x",), 1, [ADD])), 2 * 2 * 2)
        self.same(state_count(Code(1, ("x",), 1, [("enter", 0), ADD, ("leave", 0)])), 1 * 2 * 2)
        # section 0 has 3 gaps and 3 branches through each of the 2 that end in section 1, whose gaps are 4
        self.same(state_count(CODE), 2 * 512 * (4 + 2 * 4 + 6 * 3))

    def test_branches_too_many_to_be_listed(self):
        text = "routine r0(x){x+=1;}"
        for k in range(1, 20):
            text += f"routine r{k}(x)" + "{" + f"call r{k - 1}(x);back r{k - 1}(x);" * 30 + "}"
        code = code_of(read_program(text), 8)
        told, branches = 0, 1
        for k in reversed(range(20)):
            rows = len(code) - code.start if k == 19 else code.spans[k][1] - code.spans[k][0] - 1
            told += branches * (rows + 1)
            branches *= 60
        self.same(state_count(code), told * 2 * 256 ** code.slots)
        self.assertGreater(branches, 10 ** 30)

    def test_many_sections_and_many_slots(self):
        rows = []
        for k in range(20000):
            rows += [("enter", k), ("call", k - 1) if k else ("zero", 0), ("leave", k)]
        self.same(state_count(Code(1, (), 1, rows)), 4)
        self.same(state_count(Code(1, (), 1, rows + [("call", 19999)])), (2 + 20000 * 2) * 4)
        self.same(state_count(Code(12, (), 200000, ())).bit_length(), 2400002)

    def test_of_every_program(self):
        for seed in range(80):
            code = code_of(Program(made_routines(seed)), 1)
            branches = branches_of(code)
            self.same(state_count(code), sum(len(gaps) for _, gaps in branches) * 2 << code.slots)
