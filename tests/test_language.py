"""The package keeps to its small subset of Python, and the interface stands where it is listed."""

import ast
import builtins
import inspect
import unittest
from importlib import import_module
from pathlib import Path

FOLDER = Path(__file__).resolve().parent.parent / "undocells"
FILES = sorted(FOLDER.glob("*.py"))
TREES = {path.stem: ast.parse(path.read_text()) for path in FILES}

BUILTINS = set("""len range enumerate zip min max sum abs sorted reversed int str bool list tuple dict set isinstance ord
    repr any all divmod ValueError KeyError iter""".split())
METHODS = set("""append clear copy count endswith extend find get index insert isalnum isalpha isdigit islower isspace
    isupper items join keys ljust lower lstrip partition pop remove replace reverse rfind rjust rpartition rsplit rstrip
    setdefault split splitlines startswith strip update upper values zfill bit_length""".split())
STATEMENTS = (ast.Assign, ast.AugAssign, ast.If, ast.While, ast.For, ast.Return, ast.Break, ast.Continue, ast.Pass,
              ast.Raise, ast.Delete, ast.Try, ast.With, ast.Expr, ast.FunctionDef, ast.ClassDef, ast.ImportFrom)
NOT_USED = (ast.GeneratorExp, ast.SetComp, ast.NamedExpr, ast.Global, ast.Nonlocal, ast.Await, ast.AsyncFunctionDef,
            ast.AsyncFor, ast.Div, ast.Pow, ast.MatMult, ast.AnnAssign)
BARRED = set("register mro elements open input law version_info with_traceback add_note".split())
BARRED_NAMES = set("""attrgetter breakpoint builtins compile copyright credits delattr dir eval exec exit gc getattr
    globals hasattr help id importlib license locals methodcaller os quit setattr super type vars sys""".split())
BARRED_WORDS = set("""type typing enum Enum IntEnum StrEnum Flag IntFlag Generic Protocol ABC ABCMeta namedtuple
    NamedTuple TypedDict abstractmethod dataclass""".split())

# what may be imported from elsewhere
LIBRARY = {"math": {"gcd"}, "heapq": {"heappop", "heappush"}}

# the interface of what has landed: module, then each function with its parameters, each class with its methods
FUNCTIONS = {
    "words": "check_width(width) check_inputs(inputs,many,width) check_kind(kind) operand_count(kind) "
             "step_word(kind,words,width)",
    "readings": "names_in(expression) renamed_expression(expression,names) drawn_size(reading)",
    "lex": "cut_text(text,most) is_name(text) take_sign(tokens,at,value) take_name(tokens,at)",
    "reader": "read_expression(tokens,at,names,funs) read_text(text)",
    "printer": "print_expression(expression) print_text(reading)",
    "plain": "expression_word(expression,names,width) plain_worth(reading,width,inputs)",
    "bares": "check_place(bare,place) check_places(bare,places) places_under(bare,place) part_bare(bare,place) "
             "struck_arrow(bare,place,before) renumbered(bare,places) bare_text(bare) read_bare(text)",
    "webs": "web_worths(web,inputs) web_worth(web,inputs) joined_steps(web)",
    "webmaker": "web_of(reading,width,*,joined=True)",
    "moves": "check_room(room) check_row(bare,row,filled=()) standings_of(bare,row,filled=()) "
             "room_of(bare,row,filled=()) filled_behind(bare,row,filled=()) "
             "row_fault(bare,row,room=None,*,wanted='kept') row_back(row)",
    "joining": "joined_rows(*rows) cut_row(row,places) led_row(row,places) bracketed(inner,outer) "
               "kept_of_shown(bare,row) foot_of(bare,row) kept_of_foot(bare,foot)",
    "alike": "are_free(bare,one,other) change_row(bare,row,change) settled_row(bare,row) are_alike(bare,one,other) "
             "alike_way(bare,one,other) way_fault(bare,one,other,way)",
    "cellwords": "cells_behind(web,inputs,cells,row)",
    "search": "reached_standings(bare,room) least_way(bare,room,first,last) price_of(bare) shown_price_of(bare) "
              "ready_price_of(bare) fewest_moves(bare,room)",
    "closed": "closed_lot(bare,room,*,shown=False) lot_fault(bare,room,lot,*,shown=False)",
    "curve": "price_curve(bare)",
    "rounds": "is_settled(bare,asked,filled) still_needed(bare,asked=None,filled=()) rounds_of(bare) needed_table(bare)",
    "books": "book_fault(bare,book,rounds) book_against(bare,rounds) goes_over(book,filled,asked,place)",
    "games": "play_out(bare,plan,book,rounds)",
    "orderly": "filling_orders(bare,row) standing_plans(bare,row) row_to_plan(bare,row)",
    "hues": "check_painting(bare,painting) names_left(bare,painting) names_of(bare)",
    "namings": "plan_names(plan) naming_fault(bare,plan,painting=None) naming_plan(bare,painting=None)",
    "painters": "painter_fault(bare,book,names) painter_book(bare,names)",
    "leading": "naming_from_asking(bare,plan) asking_from_naming(bare,plan) "
               "painter_from_challenger(bare,book,rounds) challenger_from_painter(bare,book,names)",
    "factors": "check_prime(prime)",
    "sums": "multiplied_out(one_sum) room_of_sum(one_sum) sum_fault(bare,one_sum) sum_of_row(bare,row,prime=0) "
            "mixed_sum(bare,prime,rows,factors)",
    "flows": "row_of_sum(bare,one_sum) part_fault(bare,part) put_together(bare,parts) taken_apart(bare,one_sum)",
    "leastsums": "least_sum(bare,room,prime=0,*,shown=False) factor_within(one_sum,lot)",
    "dealing": "deal_out(needs)",
    "ties": "check_in_tree(bare) tree_weight(bare) tree_price(bare) least_numbering(bare) "
            "numbering_fault(bare,numbering) tree_turned(bare,end) numbering_turned(bare,numbering,end)",
    "treeplans": "plan_of_numbering(bare,numbering) numbering_of_plan(bare,plan)",
    "chains": "chain_bare(length) chain_price(length) longest_chain(cells) chain_moves(length) "
              "chain_move(length,number) chain_standing(length,number) chain_number(length,standing)",
    "planner": "piece_of(bare,asked,filled) great_plan(bare) great_cells(bare) great_row(bare,room=None) "
               "chosen_row(bare,room)",
    "bwread": "read_program(text)",
    "bwtext": "program_text(program)",
    "bwrun": "check_fuel(fuel) run_both(program,width,words,fuel=20000) run_traced(program,width,words,fuel=20000)",
    "trails": "trail_standings(trail,width,words) trail_back(trail) straight_program(trail,many)",
    "turnabout": "turned_body(body) turned_about(program) copied_out(program,shown)",
    "tables": "check_table(table,width,many) turned_table(table) table_of(program,width,fuel=1000) rings_of(table) "
              "chains_of(table) exchanges_of(table) exchanges_fault(table,exchanges) "
              "program_of_table(width,many,table)",
    "cells": "placed_row(bare,row) placed_back(placed) holdings_of(bare,placed,held=()) "
             "placed_fault(bare,placed,held=()) last_holding(bare,placed,held=()) cells_needed(placed,held=()) "
             "end_cell(bare,placed)",
    "emit": "step_expression(step,holding) program_of_row(web,placed,cells=None,held=()) "
            "words_held(web,inputs,holding,cells) placed_of_program(web,program,held=()) run_row(web,placed,inputs)",
    "coderows": "operand_word(operand,words,width) test_holds(test,words,width) is_code_row(thing)",
    "codejudge": "regions_of(code) code_fault(code)",
    "bwcode": "code_of(program,width) turned_code(code)",
    "states": "check_state(code,state) start_state(code,words) end_state(code,words) turned_state(state) "
              "stepped(code,state) stepped_back(code,state) is_halted(code,state) outer_way(code,state) "
              "left_over(code,state)",
    "cuts": "states_of(code,state,most) cut_run(code,words,done,way,fuel=100000) state_count(code)",
    "gates": "check_bits(bits,many=None) run_gates(bits,gates) check_gates(gates,wires) back_gates(gates) "
             "moved_gates(gates,wires) bits_along(bits,gates) count_gates(gates) bits_of_word(word,width) "
             "word_of_bits(bits)",
    "adders": "flip_by(bit,target) both_by(one,other,target) add_gates(ones,sums,carries)",
    "stepgates": "helper_count(kind,width) most_gates(kind,width) step_gates(kind,width,operands,target,helpers)",
    "circuits": "circuit_of(web,placed) turned_circuit(circuit) first_bits(circuit,inputs) "
                "cut_circuit(circuit,inputs,done,way) words_on(circuit,bits) run_circuit(circuit,inputs)",
    "freeplaces": "check_free(bare,free) used_free(bare,free) fewest_free(bare,room) free_peak(bare,free,row) "
                  "free_price(bare,free) chain_free(length,room) free_row(bare,free)",
    "edits": "edited_text(text,edit) edit_back(text,edit)",
    "compiling": "compile_all(text,width,room)",
    "cutting": "many_steps(made,layer,inputs) words_cut(made,layer,inputs,done) cut_made(made,layer,inputs,done,way)",
    "plans": "plan_length(plan) plan_fault(bare,plan,asked=None,filled=()) best_plan(bare,asked=None,filled=()) "
             "lean_plan(bare,plan,asked=None,filled=()) plan_to_row(bare,plan,asked=None,filled=())",
}
CLASSES = {
    "readings": ("Reading", "funs", "__init__ __eq__ program"),
    "steps": ("Step", "kind,operands", "__init__ __eq__"),
    "bares": ("Bare", "befores,end", "__init__ __eq__ __len__"),
    "webs": ("Web", "width,many,steps", "__init__ __eq__ __len__ __iter__"),
    "games": ("Game", "bare,rounds,turns=()",
              "__init__ __eq__ __len__ __iter__ settled winner with_turn without_last"),
    "sums": ("Sum", "prime,lines,ends", "__init__ __eq__"),
    "flows": ("Part", "factor,base,moves", "__init__ __eq__ finish"),
    "bwprogs": ("Program", "routines", "__init__ __eq__ routine_number"),
    "coderows": ("Code", "width,names,slots,rows,origins=()", "__init__ __eq__ __len__ __iter__"),
    "states": ("MachineState", "gap,way,branch,words", "__init__ __eq__"),
    "circuits": ("Circuit", "width,many,cells,helpers,gates,ends,result",
                 "__init__ __eq__ wires gates_back given_wires cell_wires helper_wires"),
    "compiling": ("Made", "reading,web,row,placed,statements,code,circuit", "__init__ __eq__"),
    "bench": ("Bench", "text,width,room", "__init__ __len__ __iter__ put take_back set_room trial tried"),
    "machine": ("Machine", "code,state", "__init__ state outer is_over step back turn run led"),
}
GENERATORS = (("moves", "standings_of"), ("trails", "trail_standings"), ("cells", "holdings_of"),
              ("cuts", "states_of"), ("gates", "bits_along"))
METHODS_TOLD = ("games Game with_turn ,place,went", "games Game without_last ", "bwprogs Program routine_number ,name",
                "machine Machine step ", "machine Machine back ", "machine Machine turn ",
                "circuits Circuit given_wires ,number", "circuits Circuit cell_wires ,number",
                "circuits Circuit helper_wires ", "bench Bench put ,edit", "bench Bench take_back ",
                "bench Bench set_room ,room", "bench Bench trial ", "bench Bench tried ,call",
                "machine Machine run ,fuel=100000", "machine Machine led ,way,fuel=100000")


def nodes():
    for name, tree in TREES.items():
        for node in ast.walk(tree):
            yield f"{name}.py:{getattr(node, 'lineno', 0)}", node


class Interface(unittest.TestCase):

    def test_each_function_is_defined_in_its_file_with_its_parameters(self):
        for module, listed in FUNCTIONS.items():
            for told in listed.split(" "):
                name = told.split("(")[0]
                function = getattr(import_module(f"undocells.{module}"), name)
                self.assertEqual(function.__module__, f"undocells.{module}")
                signature = str(inspect.signature(function)).replace(" ", "")
                self.assertEqual(name + signature, told)

    def test_each_class_is_defined_in_its_file_with_its_methods(self):
        for module, (name, parameters, methods) in CLASSES.items():
            made = getattr(import_module(f"undocells.{module}"), name)
            self.assertEqual((made.__module__, made.__bases__), (f"undocells.{module}", (object,)))
            signature = str(inspect.signature(made)).replace(" ", "")
            self.assertEqual(signature, f"({parameters})")
            for method in methods.split():
                self.assertIn(method, vars(made))

    def test_what_is_told_as_a_generator_is_one(self):
        for module, name in GENERATORS:
            self.assertTrue(inspect.isgeneratorfunction(getattr(import_module(f"undocells.{module}"), name)))

    def test_methods_have_their_parameters(self):
        for told in METHODS_TOLD:
            module, made, method, parameters = told.split(" ")
            function = vars(getattr(import_module(f"undocells.{module}"), made))[method]
            self.assertEqual(str(inspect.signature(function)).replace(" ", ""), f"(self{parameters})")


class Files(unittest.TestCase):

    def test_the_folder_holds_nothing_but_the_files(self):
        others = [path.name for path in FOLDER.iterdir() if path.suffix != ".py" and path.name != "__pycache__"]
        self.assertEqual(others, [])
        self.assertIn("__init__", TREES)

    def test_sizes_and_characters(self):
        for path in FILES:
            text = path.read_text()
            self.assertTrue(all(sign == "\n" or " " <= sign <= "~" for sign in text), path)
            lines = text.split("\n")
            self.assertLess(len(lines) - 1, 400, path)
            self.assertTrue(all(len(line) <= 120 for line in lines), path)
        for where, node in nodes():
            if isinstance(node, ast.FunctionDef):
                self.assertLessEqual(node.end_lineno - node.lineno + 1, 40, where)

    def test_imports(self):
        for name, tree in TREES.items():
            head = True
            for statement in tree.body:
                if isinstance(statement, ast.ImportFrom):
                    self.assertTrue(head and statement.level == 0, name)
                    if statement.module in LIBRARY:
                        self.assertLessEqual({alias.name for alias in statement.names}, LIBRARY[statement.module])
                        continue
                    self.assertEqual(statement.module.split(".")[0], "undocells")
                    module = import_module(statement.module)
                    for alias in statement.names:
                        self.assertIsNone(alias.asname)
                        thing = getattr(module, alias.name)
                        self.assertEqual(getattr(thing, "__module__", statement.module), statement.module, alias.name)
                elif not isinstance(statement, ast.Expr):
                    head = False
        for where, node in nodes():
            self.assertNotIsInstance(node, ast.Import, where)

    def test_no_two_files_import_from_each_other(self):
        needs = {name: {node.module.split(".")[1] for node in tree.body
                        if isinstance(node, ast.ImportFrom) and node.module not in LIBRARY}
                 for name, tree in TREES.items()}
        done = set()
        while len(done) < len(needs):
            ready = {name for name in needs if name not in done and needs[name] <= done}
            self.assertTrue(ready, set(needs) - done)
            done |= ready

    def test_imports_are_used(self):
        for name, tree in TREES.items():
            used = {node.id for node in ast.walk(tree) if isinstance(node, ast.Name)}
            for statement in tree.body:
                if isinstance(statement, ast.ImportFrom):
                    for alias in statement.names:
                        self.assertIn(alias.name, used, name)


class Subset(unittest.TestCase):

    def test_statements_and_expressions(self):
        for where, node in nodes():
            if isinstance(node, ast.stmt):
                self.assertIsInstance(node, STATEMENTS, where)
            self.assertNotIsInstance(node, NOT_USED, where)
            if isinstance(node, ast.FunctionDef):
                names = [decorator.id for decorator in node.decorator_list]
                self.assertIn(names, ([], ["property"]), where)
                self.assertIsNone(node.returns)
            if isinstance(node, ast.Compare) and isinstance(node.ops[0], (ast.Is, ast.IsNot)):
                self.assertIsInstance(node.comparators[0], ast.Constant, where)
            if isinstance(node, ast.Constant):
                self.assertNotIsInstance(node.value, (float, complex, bytes), where)
                if isinstance(node.value, str):
                    self.assertNotIn("%", node.value, where)

    def test_nothing_that_grows_gets_what_it_changes(self):
        for where, node in nodes():
            if isinstance(node, ast.AugAssign) and isinstance(node.op, (ast.Add, ast.BitOr)):
                changed, got = node.target, [node.value]
            elif (isinstance(node, ast.Call) and isinstance(node.func, ast.Attribute)
                  and node.func.attr in ("extend", "update")):
                changed, got = node.func.value, node.args
            else:
                continue
            # an item or an attribute of what is changed counts, too
            while isinstance(changed, (ast.Subscript, ast.Attribute)):
                changed = changed.value
            names = [part.id for thing in got for part in ast.walk(thing) if isinstance(part, ast.Name)]
            self.assertNotIn(changed.id, names, where)

    def test_module_level_names_are_bound_once_to_plain_values(self):
        for name, tree in TREES.items():
            bound = []
            for statement in tree.body:
                if isinstance(statement, ast.Assign):
                    self.assertEqual(len(statement.targets), 1)
                    bound.append(statement.targets[0].id)
                    for node in ast.walk(statement.value):
                        self.assertNotIsInstance(node, (ast.Call, ast.Lambda, ast.ListComp), name)
                elif isinstance(statement, ast.ImportFrom):
                    bound += [alias.name for alias in statement.names]
                elif isinstance(statement, (ast.FunctionDef, ast.ClassDef)):
                    bound.append(statement.name)
                else:
                    self.assertIsInstance(statement, ast.Expr)
                    self.assertIsInstance(statement.value.value, str)
            self.assertEqual(len(bound), len(set(bound)), name)

    def test_builtins_and_methods(self):
        own = {node.name for _, node in nodes() if isinstance(node, ast.FunctionDef)}
        for where, node in nodes():
            if isinstance(node, ast.Name) and hasattr(builtins, node.id) and node.id != "property":
                self.assertIn(node.id, BUILTINS, where)
            if isinstance(node, ast.Call) and isinstance(node.func, ast.Attribute):
                self.assertIn(node.func.attr, METHODS | own, where)

    def test_names(self):
        for name, tree in TREES.items():
            outer = {alias.name for node in tree.body if isinstance(node, ast.ImportFrom) for alias in node.names}
            outer |= {node.name for node in tree.body if isinstance(node, ast.ClassDef)}
            for node in ast.walk(tree):
                bound = ""
                if isinstance(node, ast.arg):
                    bound = node.arg
                elif isinstance(node, ast.Name) and isinstance(node.ctx, ast.Store):
                    bound = node.id
                elif isinstance(node, ast.ExceptHandler) and node.name:
                    bound = node.name
                self.assertNotIn(bound, outer | BARRED | BARRED_NAMES, name)
                self.assertFalse(hasattr(builtins, bound) if bound else False, f"{name}: {bound}")
                if isinstance(node, ast.FunctionDef):
                    self.assertNotIn(node.name, BARRED | BARRED_NAMES)
                if isinstance(node, ast.Attribute):
                    self.assertNotIn(node.attr, BARRED | {"args", "format"}, name)

    def test_barred_words(self):
        for where, node in nodes():
            words = []
            if isinstance(node, ast.Name):
                words = [node.id]
            elif isinstance(node, ast.Attribute):
                words = [node.attr]
            elif isinstance(node, (ast.arg, ast.keyword)):
                words = [node.arg]
            self.assertFalse(BARRED_WORDS & set(words), where)

    def test_sets_are_not_stored(self):
        for path in FILES:
            for number, line in enumerate(path.read_text().split("\n")):
                if " set(" in line or "(set(" in line:
                    self.assertTrue("sorted(set(" in line or "len(set(" in line, f"{path}:{number + 1}")
        for where, node in nodes():
            self.assertNotIsInstance(node, ast.Set, where)


if __name__ == "__main__":
    unittest.main()
