"""[12.1] to [12.4]: states of good code, and the step from each to the next and back."""

from codes import Wall, all_states, branches_of, good_code, told_step
from helpers import NO_NUMBERS, NO_SEQUENCES, Checks, Rule
from undocells.coderows import Code
from undocells.errors import BadInputs, BadState, Halted, RowStuck, UndoError
from undocells.states import (MachineState, check_state, end_state, is_halted, left_over, outer_way, start_state,
                              stepped, stepped_back, turned_state)

ONE, SLOT0, SLOT1, SLOT2 = ("number", 1), ("slot", 0), ("slot", 1), ("slot", 2)
# a section that adds, one that calls it and runs it back, and main rows that do so with that
CODE = Code(3, ("x", "y"), 3, (
    ("enter", 0), ("add", 0, ("same",), (ONE,)), ("zero", 2), ("leave", 0),
    ("enter", 1), ("call", 0), ("back", 0), ("call", 0), ("leave", 1),
    ("call", 1), ("back", 1), ("swap", 0, 1)))


def made(state):
    return MachineState(*state)


def parts(state):
    return state.gap, state.way, state.branch, state.words


def codes(times):
    """Good codes with few states."""
    for seed in range(times):
        width = 1 + seed % 2
        code = good_code(seed, width, 1 + seed // 2 % (4 - width), 2, 5)
        if len(branches_of(code)) <= 20:
            yield code


class States(Checks):

    def test_a_result(self):
        words = [1, 2]
        state = MachineState("a", None, [3], words)
        self.assertIs(state.words, words)
        self.same(parts(state), ("a", None, [3], [1, 2]))
        one = MachineState(1, 1, (), (0,))
        self.assertTrue(one == MachineState(1, 1, (), (0,)))
        self.assertFalse(one != MachineState(1, 1, (), (0,)))
        for other in (MachineState(2, 1, (), (0,)), MachineState(1, -1, (), (0,)), MachineState(1, 1, (0,), (0,)),
                      MachineState(1, 1, (), (1,)), (1, 1, (), (0,)), None):
            self.assertFalse(one == other)
            self.assertTrue(one != other)

    def test_all_states_of_code_and_no_others(self):
        for code in codes(60):
            states = set(all_states(code))
            gaps = range(len(code) + 1)
            branches = {branch for branch, _ in branches_of(code)}
            others = branches | {branch + (at,) for branch in branches for at in range(len(code))}
            others |= {branch[1:] for branch in branches} | {branch[::-1] for branch in branches}
            words = (code.slots * (0,), code.slots * (2 ** code.width - 1,))
            for gap in gaps:
                for branch in others:
                    for way in (1, -1):
                        for some in words:
                            state = made((gap, way, branch, some))
                            if parts(state) in states:
                                self.assertIs(check_state(code, state), state)
                            else:
                                self.fails(BadState("branch"), check_state, code, state)

    def test_gap(self):
        for gap in (-1, 13, 10 ** 9, *NO_NUMBERS):
            self.fails(BadState("gap"), check_state, CODE, MachineState(gap, None, None, None))
        for gap in (9, 12):
            self.same(check_state(CODE, MachineState(gap, 1, (), (0, 0, 0))).gap, gap)

    def test_way(self):
        for way in (0, 2, -2, *NO_NUMBERS):
            self.fails(BadState("way"), check_state, CODE, MachineState(9, way, None, None))

    def test_branch(self):
        for branch in (*[thing for thing in NO_SEQUENCES], [9], [], (9.0,), (True,), (None,), ("9",), (-1,), (12,), (11,), (8,),
                       (5,), (9, 9), (9, 1), (9, 10), (9, 5, 5), (9, 5, 9), ((9,),), (10 ** 30,)):
            self.fails(BadState("branch"), check_state, CODE, MachineState(6, 1, branch, None))
        z = (0, 0, 0)
        for branch, gaps in (((), (9, 10, 11, 12)), ((9,), (5, 6, 7, 8)), ((10,), (5, 6, 7, 8)), ((9, 5), (1, 2, 3)),
                             ((10, 6), (1, 2, 3)), ((9, 7), (1, 2, 3))):
            for gap in range(13):
                if gap in gaps:
                    self.same(parts(check_state(CODE, MachineState(gap, -1, branch, z))), (gap, -1, branch, z))
                else:
                    self.fails(BadState("branch"), check_state, CODE, MachineState(gap, -1, branch, None))

    def test_words(self):
        for words in (*NO_SEQUENCES, [0, 0, 0], (), (0, 0), (0, 0, 0, 0), (0, 8, 0), (0, -1, 0), (0, True, 0), (None, 0, 0),
                      (0, 0, 1.0)):
            self.fails(BadState("words"), check_state, CODE, MachineState(9, 1, (), words))

    def test_of_two_faults_the_first_is_told(self):
        self.fails(BadState("gap"), check_state, CODE, MachineState(13, 0, (), (9,)))
        self.fails(BadState("way"), check_state, CODE, MachineState(0, 0, (), (9,)))
        self.fails(BadState("branch"), check_state, CODE, MachineState(0, 1, (), (9,)))


class Beginnings(Checks):

    def test_start_and_end(self):
        self.same(parts(start_state(CODE, [7, 2])), (9, 1, (), (7, 2, 0)))
        self.same(parts(end_state(CODE, (7, 2))), (12, 1, (), (7, 2, 0)))
        empty = Code(1, (), 0, ())
        self.same((parts(start_state(empty, ())), parts(end_state(empty, []))), ((0, 1, (), ()), (0, 1, (), ())))
        for call in (start_state, end_state):
            for words in (*NO_SEQUENCES, (1,), (1, 2, 3)):
                self.fails(BadInputs(-1, "many"), call, CODE, words)
            for word in (8, -1, *NO_NUMBERS):
                self.fails(BadInputs(0, "word"), call, CODE, (word, word))
                self.fails(BadInputs(1, "word"), call, CODE, (0, word))

    def test_turned(self):
        state = MachineState(5, 1, (9,), (1, 2, 3))
        self.same(parts(turned_state(state)), (5, -1, (9,), (1, 2, 3)))
        self.assertTrue(turned_state(turned_state(state)) == state)
        self.same(state.way, 1)

    def test_halted(self):
        z = (0, 0, 0)
        for gap, way, branch, told in ((12, 1, (), True), (12, -1, (), False), (9, -1, (), True), (9, 1, (), False),
                                       (11, 1, (), False), (10, -1, (), False), (8, 1, (9,), False), (5, -1, (9,), False)):
            self.same(is_halted(CODE, MachineState(gap, way, branch, z)), told)
        empty = Code(1, (), 0, ())
        for way in (1, -1):
            self.same(is_halted(empty, MachineState(0, way, (), ())), True)

    def test_outer_way(self):
        for way in (1, -1):
            for branch, turns in (((), 0), ((9,), 0), ((10,), 1), ((10, 6), 2), ((10, 5), 1), ((9, 6), 1)):
                self.same(outer_way(CODE, MachineState(1, way, branch, (0, 0, 0))), -way if turns % 2 else way)

    def test_left_over(self):
        code = Code(3, ("x",), 5, ())
        for words, told in (((1, 0, 0, 0, 0), ()), ((0, 1, 0, 0, 7), (1, 4)), ((5, 5, 5, 5, 5), (1, 2, 3, 4))):
            self.same(left_over(code, MachineState(0, 1, (), words)), told)
        self.same(left_over(Code(3, ("x",), 1, ()), MachineState(0, 1, (), (3,))), ())


def step_told(code, state):
    """What a step leads to, or what stops it, as a tuple."""
    try:
        return parts(stepped(code, made(state)))
    except Halted as error:
        return "halted", error.way
    except RowStuck as error:
        return error.row, error.what


class Steps(Checks):

    def test_every_step_of_every_state_is_as_told(self):
        met = {}
        for code in codes(600):
            for state in all_states(code):
                try:
                    told = told_step(code, state)
                except Wall as wall:
                    told = wall.args
                    met[told[1]] = met.get(told[1], 0) + 1
                found = step_told(code, state)
                if found != told:
                    self.same((code.rows, state, found), (code.rows, state, told))
                if len(found) == 4:
                    row = code.rows[state[0] if state[1] == 1 else state[0] - 1]
                    key = (row[0], state[1], found[0] - state[0] == state[1])
                    met[key] = met.get(key, 0) + 1
        # every row was passed both ways, forks taken and not, and every stop was met
        for word in ("add", "sub", "xor", "swap", "zero"):
            self.assertGreater(min(met[(word, 1, True)], met[(word, -1, True)]), 20)
        for word in ("call", "back", "enter", "leave"):
            ways = {"enter": (-1,), "leave": (1,)}.get(word, (1, -1))
            for way in ways:
                self.assertGreater(met.get((word, way, True), 0) + met.get((word, way, False), 0), 20)
        for key in (("go", 1, True), ("go", 1, False), ("go", -1, True), ("come", -1, True), ("come", -1, False),
                    ("come", 1, True), "zero", "go", "come", 1, -1):
            self.assertGreater(met[key], 20)

    def test_each_step_leads_back_and_no_two_states_lead_to_one(self):
        for code in codes(600):
            ends = set()
            for state in all_states(code):
                try:
                    following = stepped(code, made(state))
                except UndoError:
                    continue
                check_state(code, following)
                self.assertNotIn(parts(following), ends)
                ends.add(parts(following))
                self.assertEqual(parts(stepped_back(code, following)), state)
                turned = stepped(code, turned_state(following))
                self.assertEqual(parts(turned), (state[0], -state[1], *state[2:]))

    def test_a_state_is_not_changed(self):
        state = start_state(CODE, (1, 2))
        stepped(CODE, state)
        self.same(parts(state), (9, 1, (), (1, 2, 0)))

    def test_by_hand_along_sections_that_are_passed_both_ways(self):
        along = [(9, 1, ()), (5, 1, (9,)), (1, 1, (9, 5)), (2, 1, (9, 5)), (3, 1, (9, 5)), (6, 1, (9,)), (3, -1, (9, 6)),
                 (2, -1, (9, 6)), (1, -1, (9, 6)), (7, 1, (9,)), (1, 1, (9, 7)), (2, 1, (9, 7)), (3, 1, (9, 7)), (8, 1, (9,)),
                 (10, 1, ()), (8, -1, (10,)), (3, -1, (10, 7)), (2, -1, (10, 7)), (1, -1, (10, 7)), (7, -1, (10,)),
                 (1, 1, (10, 6)), (2, 1, (10, 6)), (3, 1, (10, 6)), (6, -1, (10,)), (3, -1, (10, 5)), (2, -1, (10, 5)),
                 (1, -1, (10, 5)), (5, -1, (10,)), (11, 1, ()), (12, 1, ())]
        state = start_state(CODE, (4, 6))
        for told in along[:-1]:
            self.same(parts(state)[:3], told)
            state = stepped(CODE, state)
        self.assertTrue(state == end_state(CODE, (6, 4)))
        for told in along[:-1][::-1]:
            state = stepped_back(CODE, state)
            self.same(parts(state)[:3], told)

    def test_what_stops_a_step(self):
        rows = (("zero", 0), ("go", (SLOT0, 1), 3), ("come", (SLOT0, 0), 4), ("come", (SLOT1, 1), 1),
                ("go", (SLOT0, 1), 2))
        code = Code(2, (), 2, rows)
        for state, error in ((((0, 1, (), (1, 0))), RowStuck(0, "zero")), ((1, -1, (), (2, 0)), RowStuck(0, "zero")),
                             ((1, 1, (), (1, 0)), RowStuck(3, "come")), ((2, 1, (), (0, 0)), RowStuck(2, "come")),
                             ((4, -1, (), (0, 1)), RowStuck(1, "go")), ((5, -1, (), (1, 0)), RowStuck(4, "go")),
                             ((2, -1, (), (1, 0)), RowStuck(1, "go")), ((3, -1, (), (0, 0)), RowStuck(4, "go")),
                             ((5, 1, (), (0, 0)), Halted(1)), ((0, -1, (), (0, 0)), Halted(-1))):
            self.fails(error, stepped, code, made(state))
            gap, way, branch, words = state
            self.fails(error, stepped_back, code, made((gap, -way, branch, words)))
        for state, told in (((1, 1, (), (1, 1)), 4), ((1, 1, (), (0, 1)), 2), ((4, -1, (), (1, 1)), 1), ((4, -1, (), (1, 0)), 3),
                            ((4, 1, (), (1, 0)), None), ((4, 1, (), (0, 0)), 5)):
            if told is None:
                self.fails(RowStuck(2, "come"), stepped, code, made(state))
            else:
                self.same(stepped(code, made(state)).gap, told)

    def test_a_halted_state_within_a_run_of_numbers(self):
        rule = Rule(3)
        for code in codes(40):
            words = tuple(rule.below(2 ** code.width) for _ in code.names)
            self.fails(Halted(1), stepped, code, end_state(code, words))
            self.fails(Halted(-1), stepped, code, turned_state(start_state(code, words)))
            self.fails(Halted(-1), stepped_back, code, start_state(code, words))
            self.fails(Halted(1), stepped_back, code, turned_state(end_state(code, words)))
