"""[9.15] to [9.18]: tables of ends, their rings, chains and exchanges, and programs of tables."""

from itertools import permutations, product

from bothways import made_routines, name, number, pair
from helpers import NO_NUMBERS, NO_SEQUENCES, Checks, Rule
from undocells.bwprogs import Program
from undocells.bwread import read_program
from undocells.bwrun import run_both
from undocells.bwtext import program_text
from undocells.errors import BadFuel, BadMany, BadTable, BadWidth, OutOfFuel, Stuck, TooMany
from undocells.tables import (chains_of, check_table, exchanges_fault, exchanges_of, program_of_table, rings_of,
                              table_of, turned_table)
from undocells.turnabout import turned_about


def all_tables(size):
    """All right tables of so many entries."""
    for ends in product((None, *range(size)), repeat=size):
        told = [end for end in ends if end is not None]
        if len(set(told)) == len(told):
            yield ends


def made_table(seed, size):
    """A right table by a rule."""
    rule = Rule(seed)
    ends = list(range(size))
    for at in range(size - 1, 0, -1):
        other = rule.below(at + 1)
        ends[at], ends[other] = ends[other], ends[at]
    left_out = rule.one_of((1, 2, 4, 1000))
    return tuple(None if rule.below(left_out) == 0 and left_out < 1000 else end for end in ends)


def some_tables():
    """(width, many, table) of all small tables and some greater ones."""
    for width, many in ((1, 0), (12, 0), (1, 1), (2, 1), (1, 2)):
        for table in all_tables(2 ** (width * many)):
            yield width, many, table
    for seed, (width, many) in enumerate(((3, 1), (1, 3), (2, 2), (4, 1), (5, 1), (1, 5), (2, 3), (3, 2), (8, 1),
                                          (1, 8), (2, 4), (4, 2), (7, 1)) * 2):
        yield width, many, made_table(seed, 2 ** (width * many))


def digits(count, width, many):
    """The words of a number: the first is the highest digit."""
    words = []
    for _ in range(many):
        words.insert(0, count % 2 ** width)
        count //= 2 ** width
    return tuple(words)


class Checked(Checks):

    def test_right_tables_are_returned(self):
        for width, many, table in some_tables():
            self.same(check_table(table, width, many), table)
            self.same(check_table(list(table), width, many), table)

    def test_wrong_arguments_in_their_order(self):
        for width in (0, 13, -1, *NO_NUMBERS):
            self.fails(BadWidth(), check_table, None, width, None)
            self.fails(BadWidth(), program_of_table, width, None, None)
        for many in (-1, 9, 100, *NO_NUMBERS):
            self.fails(BadMany(), check_table, None, 12, many)
            self.fails(BadMany(), program_of_table, 12, many, None)
        for width, many in ((2, 5), (3, 3), (9, 1), (5, 2), (12, 8)):
            self.fails(TooMany(8), check_table, None, width, many)
            self.fails(TooMany(8), program_of_table, width, many, None)
        for width, many, size in ((1, 8, 256), (8, 1, 256), (4, 2, 256), (2, 1, 4), (3, 0, 1)):
            self.same(len(check_table((None,) * size, width, many)), size)
            for table in (*NO_SEQUENCES, (None,) * (size - 1), (None,) * (size + 1)):
                self.fails(BadTable(-1), check_table, table, width, many)
                self.fails(BadTable(-1), program_of_table, width, many, table)

    def test_entries(self):
        for bad in (4, -1, *[thing for thing in NO_NUMBERS if thing is not None], 1.0, [1], (1,), {}):
            self.fails(BadTable(1), check_table, (0, bad, bad, bad), 2, 1)
            self.fails(BadTable(3), check_table, (None, None, None, bad), 2, 1)
        for table, index in (((0, 0, 9, 9), 1), ((3, None, 3, None), 2), ((2, 1, 0, 1), 3), ((4, 0, 0, 0), 0)):
            self.fails(BadTable(index), check_table, table, 2, 1)
            self.fails(BadTable(index), program_of_table, 1, 2, table)
        self.fails(BadTable(0), check_table, (1,), 1, 0)


class OfPrograms(Checks):

    def test_the_first_word_is_the_highest_digit(self):
        program = read_program("routine p(x,y,z){x+=1;y<=>z;}")
        for width in (1, 2):
            expected = []
            for count in range(2 ** (3 * width)):
                x, y, z = digits(count, width, 3)
                expected.append((((x + 1) % 2 ** width) << width | z) << width | y)
            self.same(table_of(program, width), tuple(expected))

    def test_stuck_and_not_enough_fuel_are_none(self):
        program = read_program("routine p(x){if x==2{x+=1;}else{}fi x==3;from x==0{x+=1;}loop{}until x==1;}")
        self.same(table_of(program, 3), (1,) + (None,) * 7)
        self.same(table_of(read_program("routine p(x){if x{x+=0;}else{}fi x;}"), 2, 1), (0, None, None, None))
        self.same(table_of(read_program("routine p(x){if x{x+=0;}else{}fi x;}"), 2, 2), (0, 1, 2, 3))
        many = Program([("p", ("x",), (("add", "x", number(1)),) * 1001)])
        self.same(table_of(many, 1), (None, None))
        self.same(table_of(many, 1, 1001), (1, 0))
        self.same(table_of(Program([("p", ("x",), (("add", "x", number(1)),) * 1000)]), 1), (0, 1))

    def test_no_names(self):
        self.same(table_of(Program([("p", (), ())]), 12), (0,))
        self.same(table_of(Program([("p", (), (("if", number(1), (), (), number(0)),))]), 1), (None,))

    def test_tables_of_programs_are_right_and_turned_about(self):
        for seed in range(60):
            program = Program(made_routines(seed, 6))
            width = 1 + (len(program.names) < 3)
            for fuel in (1, 2, 3, 5, 9, 1000):
                table = table_of(program, width, fuel)
                self.same(check_table(table, width, len(program.names)), table)
                self.same(table_of(turned_about(program), width, fuel), turned_table(table))

    def test_wrong_arguments_in_their_order(self):
        program = Program([("p", tuple(f"x{k}" for k in range(9)), ())])
        for width in (0, 13, *NO_NUMBERS):
            self.fails(BadWidth(), table_of, program, width, 0)
        self.fails(TooMany(8), table_of, program, 1, 0)
        self.fails(TooMany(8), table_of, Program([("p", ("x",), ())]), 9, 0)
        self.same(table_of(Program([("p", ("x",), ())]), 8), tuple(range(256)))
        self.same(len(table_of(Program([("p", program.names[:8], ())]), 1, 1)), 256)
        for fuel in (0, 20001, *NO_NUMBERS):
            self.fails(BadFuel(), table_of, Program([("p", ("x",), ())]), 2, fuel)


class RingsAndChains(Checks):

    def test_by_hand(self):
        table = (2, 1, 5, None, 6, 0, None, 4)
        self.same(rings_of(table), ((0, 2, 5), (1,)))
        self.same(chains_of(table), ((3,), (7, 4, 6)))
        self.same((rings_of((0,)), chains_of((0,)), rings_of((None,)), chains_of((None,))), (((0,),), (), (), ((0,),)))
        self.same(rings_of([1, 0]), ((0, 1),))

    def test_turned(self):
        self.same(turned_table((2, 1, None, 0)), (3, 1, 0, None))
        self.same(turned_table([None]), (None,))

    def test_each_number_stands_once_and_is_followed_by_its_end(self):
        for _, _, table in some_tables():
            rings, chains = rings_of(table), chains_of(table)
            self.assertEqual(sorted(k for part in rings + chains for k in part), list(range(len(table))))
            self.assertEqual(list(rings), sorted(rings))
            self.assertEqual(list(chains), sorted(chains))
            for ring in rings:
                self.assertEqual(ring[0], min(ring))
                self.assertEqual([table[k] for k in ring], [*ring[1:], ring[0]])
            for chain in chains:
                self.assertNotIn(chain[0], table)
                self.assertEqual([table[k] for k in chain], [*chain[1:], None])
            back = turned_table(table)
            self.assertEqual([back[end] for end in table if end is not None],
                             [at for at, end in enumerate(table) if end is not None])
            self.same(turned_table(back), table)


def led(number_of, exchanges):
    """Where a number is led by exchanges one behind the other."""
    for one, other in exchanges:
        number_of = other if number_of == one else one if number_of == other else number_of
    return number_of


class Exchanges(Checks):

    def test_they_lead_each_number_to_its_end_and_are_as_few_as_told(self):
        for _, _, table in some_tables():
            exchanges = exchanges_of(table)
            self.same(exchanges_of(list(table)), exchanges)
            self.assertIsInstance(exchanges, tuple)
            self.assertEqual(len(exchanges), len([k for k in table if k is not None]) - len(rings_of(table)))
            for at, end in enumerate(table):
                if end is not None:
                    self.assertEqual(led(at, exchanges), end)
            self.same(exchanges_fault(table, exchanges), None)
            self.same(exchanges_fault(list(table), list(exchanges)), None)

    def test_none_are_fewer(self):
        for size in (1, 2, 3, 4):
            every = [(one, other) for one in range(size) for other in range(one + 1, size)]
            least = {}
            for many in range(size):
                for exchanges in product(every, repeat=many):
                    least.setdefault(tuple(led(k, exchanges) for k in range(size)), many)
            for table in all_tables(size):
                fitting = [many for ends, many in least.items()
                           if all(end in (None, other) for end, other in zip(table, ends))]
                self.assertEqual(len(exchanges_of(table)), min(fitting))

    def test_other_right_ones(self):
        table = (1, 2, 0, None)
        for exchanges in permutations(((0, 1), (0, 2), (1, 2)), 2):
            right = [led(k, exchanges) for k in range(3)] == [1, 2, 0]
            self.same(exchanges_fault(table, exchanges), None if right else "leads")
            turned = [(other, one) for one, other in exchanges]
            self.same(exchanges_fault(table, turned), None if right else "leads")
        self.same(exchanges_fault((None, 0), ((1, 0),)), None)
        self.same(exchanges_fault((None, None), ()), None)

    def test_each_word_and_two_faults_at_once(self):
        table = (1, 0, None, None)
        for bad in (*NO_SEQUENCES, [None], [[0, 1]], [(0,)], [(0, 1, 2)], [(0, 0)], [(0, 4)], [(-1, 0)], [(True, 0)],
                    [("0", 1)], [(0, 1), None], [(0, 1.0)], [()]):
            self.same(exchanges_fault(table, bad), "form")
        for bad in ((), [(0, 2)], [(2, 3)], [(0, 1), (0, 1)], [(0, 2), (0, 1)]):
            self.same(exchanges_fault(table, bad), "leads")
        for bad in ([(0, 1), (2, 3)], [(0, 1), (0, 1), (0, 1)], [(2, 3), (0, 1)], [(0, 1)] * 5):
            self.same(exchanges_fault(table, bad), "many")
        self.same(exchanges_fault((None, None), [(0, 1)]), "many")
        self.same(exchanges_fault(table, [(0, 2), (0, 0)]), "form")
        self.same(exchanges_fault(table, [(2, 3), (2, 3)]), "leads")


class ProgramsOfTables(Checks):

    def test_their_table_is_the_table(self):
        for width, many, table in some_tables():
            if len(table) <= 64:
                program = program_of_table(width, many, table)
                self.same(table_of(program, width, 20000), table)
        for seed, (width, many) in enumerate(((8, 1), (1, 8), (4, 2))):
            table = made_table(seed + 50, 256)
            program = program_of_table(width, many, list(table))
            for count in range(seed, 256, 5):
                try:
                    told = run_both(program, width, digits(count, width, many))
                except Stuck:
                    told = None
                self.same(told, None if table[count] is None else digits(table[count], width, many))

    def test_the_statements_are_as_told(self):
        for width, many, table in some_tables():
            program = program_of_table(width, many, table)
            self.same([routine[:2] for routine in program.routines], [("made", tuple(f"w{k}" for k in range(many)))])

            def test(count):
                parts = [pair("==", name(f"w{at}"), number(word)) for at, word in enumerate(digits(count, width, many))]
                whole = parts[0] if parts else number(1)
                for part in parts[1:]:
                    whole = pair("&", whole, part)
                return whole
            body = program.routines[0][2]
            barred = [at for at, end in enumerate(table) if end is None]
            self.same(body[:len(barred)], tuple(("if", test(at), (), (), number(0)) for at in barred))
            found = []
            for statement in body[len(barred):]:
                word, first, turns, no, last = statement
                one, other = next((one, other) for one, other in
                                  product(range(len(table)), repeat=2) if pair("|", test(one), test(other)) == first) \
                    if len(table) <= 16 else (None, None)
                self.same((word, no, last), ("if", (), first))
                if one is not None:
                    changed = [(at, a ^ b) for at, (a, b) in
                               enumerate(zip(digits(one, width, many), digits(other, width, many))) if a != b]
                    self.same(turns, tuple(("xor", f"w{at}", number(turn)) for at, turn in changed))
                    found.append((one, other))
            if len(table) <= 16:
                self.same(tuple(found), exchanges_of(table))
            self.assertEqual(len(body), len(barred) + len(exchanges_of(table)))

    def test_by_hand(self):
        self.same(program_text(program_of_table(2, 2, (5, None) + tuple(range(2, 5)) + (0,) + tuple(range(6, 16)))),
                  "routine made(w0,w1){if(w0==0)&(w1==1){}else{}fi 0;"
                  "if(w0==0)&(w1==0)|(w0==1)&(w1==1){w0^=1;w1^=1;}else{}fi(w0==0)&(w1==0)|(w0==1)&(w1==1);}")
        self.same(program_text(program_of_table(7, 0, [None])), "routine made(){if 1{}else{}fi 0;}")
        self.same(program_text(program_of_table(7, 0, [0])), "routine made(){}")

    def test_less_fuel_than_it_needs(self):
        program = program_of_table(1, 1, (1, 0))
        self.same(run_both(program, 1, (1,), 2), (0,))
        self.fails(OutOfFuel(), run_both, program, 1, (1,), 1)
