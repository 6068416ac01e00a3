"""Games of the asker and the challenger, turn by turn."""

from undocells.bares import check_place
from undocells.basics import places_in
from undocells.books import check_rounds, goes_over
from undocells.errors import BadAnswer, BadPlan, NoTurn, Over, Taken
from undocells.plans import plan_fault
from undocells.rounds import answers_of, is_ready


def stands_on(bare, asked, filled):
    """Whether all befores of the asked place are among the filled places."""
    return all([before in filled for before in bare.befores[asked]])


def state_behind(bare, asked, filled, turn):
    """The state behind a turn: the asked place, and the filled ones as binary ones."""
    place, went = turn
    check_place(bare, place)
    if (filled | 1 << asked) >> place & 1:
        raise Taken(place)
    if not isinstance(went, bool):
        raise BadAnswer()
    stayed, gone = answers_of(asked, filled, place)
    return gone if went else stayed


class Game:
    """A game after some turns."""

    def __init__(self, bare, rounds, turns=()):
        self.bare = bare
        self.rounds = check_rounds(rounds)
        self.turns = tuple([tuple(turn) for turn in turns])
        asked, filled, left = bare.end, 0, rounds - 1
        for turn in self.turns:
            if is_ready(bare, asked, filled) or left == 0:
                raise Over()
            asked, filled = state_behind(bare, asked, filled, turn)
            left -= 1
        self.asked = asked
        self.filled = places_in(filled)
        self.left = left

    @property
    def settled(self):
        """Whether all befores of the asked place are filled."""
        return stands_on(self.bare, self.asked, self.filled)

    @property
    def winner(self):
        """Who has won, if anyone has."""
        if stands_on(self.bare, self.asked, self.filled):
            return "asker"
        return "challenger" if self.left == 0 else None

    def with_turn(self, place, went):
        """The game behind one more turn."""
        return Game(self.bare, self.rounds, (*self.turns, (place, went)))

    def without_last(self):
        """The game ahead of its last turn."""
        if self.turns == ():
            raise NoTurn()
        return Game(self.bare, self.rounds, self.turns[:-1])

    def __len__(self):
        return len(self.turns)

    def __iter__(self):
        return iter(self.turns)

    def __eq__(self, other):
        return (isinstance(other, Game) and self.bare == other.bare and self.rounds == other.rounds
                and self.turns == other.turns)


def play_out(bare, plan, book, rounds):
    """The game that a plan for the end plays against the entries of a book."""
    word = plan_fault(bare, plan)
    if word is not None:
        raise BadPlan(word)
    game, rest = Game(bare, rounds), plan
    while game.winner is None:
        place, stayed, gone = rest
        went = goes_over(book, game.filled, game.asked, place)
        game = game.with_turn(place, went)
        rest = gone if went else stayed
    return game
