"""The bench: a text with all that is made of it, edited and taken back."""

from undocells.compiling import compile_all
from undocells.edits import edited_text
from undocells.errors import NoEdit


class Trial:
    """A block of work on a bench, behind which the bench is as before."""

    def __init__(self, bench):
        self.bench = bench

    def __enter__(self):
        self.text = self.bench.text
        self.width = self.bench.width
        self.room = self.bench.room
        self.made = self.bench.made
        self.edits = self.bench.edits
        self.elders = self.bench.elders
        return self.bench

    def __exit__(self, kind, value, trace):
        bench = self.bench
        bench.text = self.text
        bench.width = self.width
        bench.room = self.room
        bench.made = self.made
        bench.edits = self.edits
        bench.elders = self.elders


class Bench:
    """A text with all that is made of it, and its standing edits."""

    def __init__(self, text, width, room):
        self.made = compile_all(text, width, room)
        self.text = text
        self.width = width
        self.room = room
        self.edits = ()
        # the texts ahead of each standing edit
        self.elders = ()

    def put(self, edit):
        """Edit the text and compile it anew."""
        text = edited_text(self.text, edit)
        self.made = compile_all(text, self.width, self.room)
        self.elders = (*self.elders, self.text)
        self.edits = (*self.edits, tuple(edit))
        self.text = text

    def take_back(self):
        """Take the last standing edit back."""
        if len(self.edits) == 0:
            raise NoEdit()
        text = self.elders[-1]
        self.made = compile_all(text, self.width, self.room)
        self.text = text
        self.elders = self.elders[:-1]
        self.edits = self.edits[:-1]

    def set_room(self, room):
        """Compile the text anew for another room."""
        self.made = compile_all(self.text, self.width, room)
        self.room = room

    def trial(self):
        """An object for with, whose name is the bench."""
        return Trial(self)

    def tried(self, call):
        """What a function returns that is called with the bench in a trial."""
        with self.trial() as bench:
            return call(bench)

    def __len__(self):
        return len(self.edits)

    def __iter__(self):
        return iter(self.edits)
