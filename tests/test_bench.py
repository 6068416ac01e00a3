"""[14.8]: the bench, its edits, its rooms and its trials."""

from helpers import NO_NUMBERS, Checks
from undocells.bench import Bench
from undocells.compiling import compile_all
from undocells.edits import edited_text
from undocells.errors import BadEdit, BadName, BadRoom, BadText, BadWidth, Fewer, NoEdit, TooMany, UndoError

TEXT = "fun g(a){give a*a;}fun f(a,b){let c=a+b;repeat 2{c=c*b-a;}c=g(c);give c^a;}"
RENAME = ("rename", "f", "c", "d")
SPLIT = ("split", "f", 0, 1)
PUT_IN = ("put in", "f", 0)
SPAN = ("span", 0, 0, " ")


def shown(bench):
    """All attributes of a bench."""
    return bench.text, bench.width, bench.room, bench.edits


class Benches(Checks):

    def is_as(self, bench, text, width, room, edits):
        """The bench has these attributes, and what is made of them."""
        self.same(shown(bench), (text, width, room, edits))
        self.assertTrue(bench.made == compile_all(text, width, room))
        self.same((len(bench), list(bench)), (len(edits), list(edits)))


class Edits(Benches):

    def test_it_compiles_all(self):
        bench = Bench(TEXT, 4, 6)
        self.is_as(bench, TEXT, 4, 6, ())

    def test_it_raises_as_compile_all(self):
        for args in ((None, None, None), ("fun", 4, 6), ("fun f(a){give b;}", 4, 6), (TEXT, 13, None), (TEXT, 4, 0),
                     (TEXT, True, 6), (TEXT, 4, 2), ("fun f(a){repeat 16{repeat 13{a=a*a;}}give a;}", 4, 6)):
            with self.assertRaises(UndoError) as caught:
                compile_all(*args)
            self.fails(caught.exception, Bench, *args)

    def test_put_and_take_back(self):
        bench = Bench(TEXT, 4, 6)
        along = [TEXT]
        edits = (RENAME, SPLIT, PUT_IN, SPAN)
        for many, edit in enumerate(edits):
            self.assertIsNone(bench.put(list(edit) if many % 2 else edit))
            along.append(edited_text(along[-1], edit))
            self.is_as(bench, along[-1], 4, 6, edits[:many + 1])
        for many in (3, 2, 1, 0):
            self.assertIsNone(bench.take_back())
            self.is_as(bench, along[many], 4, 6, edits[:many])
        self.fails(NoEdit(), bench.take_back)
        self.is_as(bench, TEXT, 4, 6, ())
        bench.put(SPLIT)
        self.is_as(bench, edited_text(TEXT, SPLIT), 4, 6, (SPLIT,))

    def test_what_is_put_is_copied(self):
        bench = Bench(TEXT, 4, 6)
        edit = list(RENAME)
        bench.put(edit)
        edit[2] = "a"
        self.same(bench.edits, (RENAME,))

    def test_rooms(self):
        bench = Bench(TEXT, 4, 6)
        self.assertIsNone(bench.set_room(8))
        self.is_as(bench, TEXT, 4, 8, ())
        bench.put(RENAME)
        bench.set_room(5)
        bench.put(SPAN)
        self.is_as(bench, " " + edited_text(TEXT, RENAME), 4, 5, (RENAME, SPAN))
        # the room that was set since stays
        bench.take_back()
        self.is_as(bench, edited_text(TEXT, RENAME), 4, 5, (RENAME,))
        bench.take_back()
        self.is_as(bench, TEXT, 4, 5, ())

    def test_an_error_leaves_the_bench_as_it_was(self):
        bench = Bench(TEXT, 4, 6)
        bench.put(RENAME)
        made, before = bench.made, shown(bench)
        wrong = [(BadEdit("edit"), None), (BadEdit("fun"), ("rename", "h", "a", "b")), (BadEdit("name"), RENAME),
                 (BadText(-1, "long"), ("span", 0, 0, " " * 3000)), (BadText(0, "want"), ("span", 0, 0, "x")),
                 (BadName(28, "unknown"), ("span", 0, len(before[0]), "fun f(a,b,e){let c=a+b;give x;}")),
                 (TooMany(4000), ("span", 0, len(before[0]), "fun f(a){repeat 16{repeat 16{a=a*a;repeat 16{a=a+1;}}}give a;}")),
                 (TooMany(200), ("span", 0, len(before[0]), "fun f(a){repeat 16{repeat 13{a=a*a;}}give a;}")),
                 (Fewer(6), ("span", 0, len(before[0]), "fun f(a){" + "repeat 16{a=a*a;}" * 12 + "give a;}"))]
        for error, edit in wrong:
            self.fails(error, bench.put, edit)
            self.assertIs(bench.made, made)
            self.same(shown(bench), before)
        for room in (0, 201, *NO_NUMBERS):
            self.fails(BadRoom(), bench.set_room, room)
            self.assertIs(bench.made, made)
            self.same(shown(bench), before)
        self.fails(Fewer(1), bench.set_room, 1)
        self.same(shown(bench), before)

    def test_a_text_that_does_not_fit_the_room_is_not_taken_back(self):
        great = "fun f(a){let b=a*a;let c=b*b-a;let d=c*b;give d^c^b^a;}"
        bench = Bench(great, 4, 5)
        bench.put(("span", 0, len(great), "fun f(a){give a;}"))
        bench.set_room(1)
        made = bench.made
        self.fails(Fewer(1), bench.take_back)
        self.assertIs(bench.made, made)
        self.same((bench.text, bench.room, len(bench)), ("fun f(a){give a;}", 1, 1))
        bench.set_room(5)
        bench.take_back()
        self.is_as(bench, great, 4, 5, ())


class Trials(Benches):

    def test_behind_a_trial_all_is_as_before(self):
        bench = Bench(TEXT, 4, 6)
        bench.put(RENAME)
        made = bench.made
        with bench.trial() as same:
            self.assertIs(same, bench)
            bench.put(SPLIT)
            bench.put(PUT_IN)
            bench.set_room(9)
            self.same(len(bench), 3)
        self.is_as(bench, edited_text(TEXT, RENAME), 4, 6, (RENAME,))
        self.assertIs(bench.made, made)
        with bench.trial():
            bench.take_back()
            bench.set_room(20)
            self.is_as(bench, TEXT, 4, 20, ())
        self.is_as(bench, edited_text(TEXT, RENAME), 4, 6, (RENAME,))
        with bench.trial():
            pass
        self.is_as(bench, edited_text(TEXT, RENAME), 4, 6, (RENAME,))
        bench.take_back()
        self.is_as(bench, TEXT, 4, 6, ())
        self.fails(NoEdit(), bench.take_back)

    def test_attributes_that_were_set_by_hand(self):
        bench = Bench(TEXT, 4, 6)
        made = bench.made
        with bench.trial():
            bench.text, bench.width, bench.room, bench.made, bench.edits = "", 0, None, None, (1, 2)
        self.is_as(bench, TEXT, 4, 6, ())
        self.assertIs(bench.made, made)

    def test_trials_within_trials(self):
        bench = Bench(TEXT, 4, 6)
        with bench.trial():
            bench.put(RENAME)
            with bench.trial() as inner:
                inner.put(SPLIT)
                with inner.trial():
                    bench.take_back()
                    bench.take_back()
                    self.fails(NoEdit(), bench.take_back)
                self.same(bench.edits, (RENAME, SPLIT))
                bench.set_room(7)
            self.is_as(bench, edited_text(TEXT, RENAME), 4, 6, (RENAME,))
        self.is_as(bench, TEXT, 4, 6, ())

    def test_a_trial_that_ends_in_an_error(self):
        bench = Bench(TEXT, 4, 6)
        for error in (ValueError("mine"), KeyboardInterrupt(), BadWidth()):
            with self.assertRaises(error.__class__) as caught:
                with bench.trial():
                    bench.put(RENAME)
                    with bench.trial():
                        bench.put(SPAN)
                        raise error
            self.assertIs(caught.exception, error)
            self.is_as(bench, TEXT, 4, 6, ())

    def test_one_trial_object_for_one_block_after_the_other(self):
        bench = Bench(TEXT, 4, 6)
        trial = bench.trial()
        for edit in (RENAME, SPLIT):
            bench.put(edit)
            edits = bench.edits
            with trial:
                bench.put(SPAN)
            self.same(bench.edits, edits)

    def test_tried(self):
        bench = Bench(TEXT, 4, 6)

        def work(given):
            self.assertIs(given, bench)
            given.put(SPLIT)
            given.set_room(8)
            return [len(given.made.row), given.room]
        self.same(bench.tried(work), [len(compile_all(edited_text(TEXT, SPLIT), 4, 8).row), 8])
        self.is_as(bench, TEXT, 4, 6, ())
        self.assertIsNone(bench.tried(lambda given: given.put(RENAME)))
        self.same(bench.tried(lambda given: given.tried(work)[1]), 8)
        self.is_as(bench, TEXT, 4, 6, ())
        self.fails(NoEdit(), bench.tried, lambda given: given.take_back())
        self.fails(Fewer(1), bench.tried, lambda given: [given.put(RENAME), given.set_room(1)])
        self.is_as(bench, TEXT, 4, 6, ())
