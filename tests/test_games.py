"""[6.8]: games of the asker and the challenger."""

from helpers import NO_NUMBERS, Checks, Rule, chain, large_bares, some_bares
from test_plans import made_plan
from undocells.bares import Bare
from undocells.books import book_against
from undocells.errors import BadAnswer, BadPlan, BadRounds, NoPlace, NoTurn, Over, Taken
from undocells.games import Game, play_out
from undocells.plans import plan_length
from undocells.search import price_of

DIAMOND = Bare([[], [0], [0], [1, 2]], 3)
NO_ROUNDS = (0, 201, -1, *NO_NUMBERS)


def told(game):
    return (game.turns, game.asked, game.filled, game.left, game.settled, game.winner)


class Games(Checks):

    def test_the_beginning(self):
        self.same(told(Game(DIAMOND, 4)), ((), 3, (), 3, False, None))
        self.same(told(Game(chain(1), 1)), ((), 0, (), 0, True, "asker"))
        self.same(told(Game(chain(1), 200)), ((), 0, (), 199, True, "asker"))
        self.same(told(Game(chain(2), 1)), ((), 1, (), 0, False, "challenger"))
        self.same(told(Game(chain(200), 200)), ((), 199, (), 199, False, None))

    def test_some_turns(self):
        game = Game(DIAMOND, 4, [[2, False], (1, True)])
        self.same(told(game), (((2, False), (1, True)), 1, (2, 3), 1, False, None))
        self.same(told(game.with_turn(0, False)), (((2, False), (1, True), (0, False)), 1, (0, 2, 3), 0, True, "asker"))
        self.same(told(game.with_turn(0, True)), (((2, False), (1, True), (0, True)), 0, (1, 2, 3), 0, True, "asker"))
        self.same(told(game), (((2, False), (1, True)), 1, (2, 3), 1, False, None))
        self.same(told(game.without_last()), (((2, False),), 3, (2,), 2, False, None))
        self.assertIs(game.bare, DIAMOND)
        self.same(game.rounds, 4)

    def test_the_challenger_wins_when_no_round_is_left(self):
        self.same(told(Game(chain(4), 2, [(0, False)])), (((0, False),), 3, (0,), 0, False, "challenger"))
        # settled comes first
        self.same(Game(chain(2), 2, [(0, False)]).winner, "asker")

    def test_what_was_passed_may_change_later(self):
        turn = [2, False]
        turns = [turn]
        game = Game(DIAMOND, 4, turns)
        turn[0] = 1
        turns.append((0, False))
        self.same(told(game), (((2, False),), 3, (2,), 2, False, None))

    def test_len_and_iteration(self):
        game = Game(DIAMOND, 4, [(2, False), (1, True)])
        self.same(len(game), 2)
        self.same(list(game), [(2, False), (1, True)])
        self.same((len(Game(DIAMOND, 1)), list(Game(DIAMOND, 1))), (0, []))

    def test_equality(self):
        one = Game(DIAMOND, 4, [(2, False)])
        self.assertTrue(one == Game(Bare([[], [0], [0], [2, 1]], 3), 4, ((2, False),)))
        self.assertFalse(one != Game(DIAMOND, 4).with_turn(2, False))
        for other in (Game(DIAMOND, 5, [(2, False)]), Game(DIAMOND, 4), Game(DIAMOND, 4, [(2, True)]), None, one.turns,
                      Game(DIAMOND, 4, [(1, False)]), Game(Bare([[], [0], [], [1, 2]], 3), 4, [(2, False)])):
            self.assertTrue(one != other)
            self.assertFalse(one == other)
        # other turns that lead to the same state are another game
        self.assertTrue(Game(DIAMOND, 4, [(0, False), (1, False)]) != Game(DIAMOND, 4, [(1, False), (0, False)]))

    def test_errors_of_a_turn(self):
        game = Game(chain(4), 4, [(1, False)])
        for place in (4, -1, *NO_NUMBERS):
            self.fails(NoPlace(place), game.with_turn, place, None)
        self.fails(Taken(1), game.with_turn, 1, None)
        self.fails(Taken(3), game.with_turn, 3, 0)
        for went in (None, 0, 1, "True", (), 1.0):
            self.fails(BadAnswer(), game.with_turn, 0, went)
        for over in (Game(chain(4), 2, [(1, False)]), Game(chain(2), 9, [(0, True)]), Game(chain(1), 9), Game(chain(4), 1)):
            self.fails(Over(), over.with_turn, None, None)

    def test_errors_of_the_constructor(self):
        for rounds in NO_ROUNDS:
            self.fails(BadRounds(), Game, chain(4), rounds, [(9, None)])
        self.fails(NoPlace(9), Game, chain(4), 9, [(0, False), (9, None)])
        self.fails(Taken(0), Game, chain(4), 9, [(0, False), (0, None), (9, False)])
        self.fails(BadAnswer(), Game, chain(4), 9, [(0, False), (1, 1), (9, False)])
        self.fails(Over(), Game, chain(4), 2, [(0, False), (9, None)])
        self.fails(Over(), Game, chain(4), 9, [(2, False), (9, None)])
        self.fails(NoPlace(True), Game, chain(4), 9, ((True, False),))

    def test_no_turn(self):
        self.fails(NoTurn(), Game(chain(4), 4).without_last)
        self.fails(NoTurn(), Game(chain(4), 4, [(0, False)]).without_last().without_last)

    def test_all_games_of_small_webs(self):
        for bare in some_bares(4, 3):
            for rounds in (1, 2, 4):
                self.walk(bare, rounds, Game(bare, rounds), bare.end, frozenset())

    def walk(self, bare, rounds, game, asked, filled):
        settled = set(bare.befores[asked]) <= filled
        left = rounds - 1 - len(game.turns)
        winner = "asker" if settled else "challenger" if left == 0 else None
        self.same(told(game), (game.turns, asked, tuple(sorted(filled)), left, settled, winner))
        self.assertTrue(game == Game(bare, rounds, list(game.turns)))
        if winner is None:
            for place in range(len(bare)):
                if place != asked and place not in filled:
                    for went in (False, True):
                        after = game.with_turn(place, went)
                        self.same(after.turns, game.turns + ((place, went),))
                        self.assertTrue(after.without_last() == game)
                        state = (place, filled | {asked}) if went else (asked, filled | {place})
                        self.walk(bare, rounds, after, *state)

    def test_a_game_of_199_turns(self):
        star = Bare([[] for _ in range(199)] + [list(range(199))], 199)
        game = Game(star, 200, [(place, False) for place in range(198)])
        self.same((game.winner, game.left), (None, 1))
        self.same(game.with_turn(198, False).winner, "asker")


class Played(Checks):

    def test_a_few(self):
        plan = (1, (2, (), ()), (0, (), ()))
        self.same(play_out(chain(4), plan, (), 9).turns, ((1, False), (2, False)))
        self.same(play_out(chain(4), plan, (((), 3, (1,)), ((3,), 1, (0,))), 9).turns, ((1, True), (0, True)))
        self.same(play_out(chain(4), plan, (((), 3, (1,)),), 2).turns, ((1, True),))
        self.same(play_out(chain(4), plan, (((), 3, (1,)),), 2).winner, "challenger")
        self.same(told(play_out(chain(4), plan, (), 1)), ((), 3, (), 0, False, "challenger"))
        self.same(told(play_out(chain(1), (), (), 1)), ((), 0, (), 0, True, "asker"))

    def test_any_entries(self):
        # entries of other states, and entries that are no book without a fault
        entries = (((5, 6), 9, (1,)), ((), 3, (1,)), ((), 2, (0, 1, 2)))
        game = play_out(chain(4), (1, (2, (), ()), (0, (), ())), entries, 4)
        self.same(game.turns, ((1, True), (0, False)))
        self.assertTrue(game == Game(chain(4), 4, game.turns))

    def test_short_plans_win_against_all_books_and_faultless_books_against_all_plans(self):
        for seed, bare in enumerate(list(some_bares(5, 3)) + list(large_bares(6))):
            rule, price = Rule(seed), price_of(bare)
            plan = made_plan(bare, bare.end, frozenset(), rule)
            for rounds in range(1, price):
                self.same(play_out(bare, plan, book_against(bare, rounds), rounds).winner, "challenger")
            for rounds in (plan_length(plan) + 1, plan_length(plan) + 3):
                for book in ((), self.any_entries(bare, rule), book_against(bare, price - 1) if price > 1 else ()):
                    self.same(play_out(bare, plan, book, rounds).winner, "asker")

    def any_entries(self, bare, rule):
        """An entry for each state, chosen by a rule."""
        entries = []
        for number in range(1 << len(bare)):
            filled = tuple(p for p in range(len(bare)) if number >> p & 1)
            for asked in range(len(bare)):
                others = [p for p in range(len(bare)) if p != asked and p not in filled]
                if asked not in filled:
                    entries.append((filled, asked, tuple(p for p in others if rule.below(2))))
        return tuple(sorted(entries))

    def test_errors(self):
        for rounds in NO_ROUNDS:
            self.fails(BadPlan("early"), play_out, chain(4), (), (), rounds)
            self.fails(BadRounds(), play_out, chain(1), (), (), rounds)
        self.fails(BadPlan("place"), play_out, chain(4), (9, (), ()), (), 0)
        self.fails(BadPlan("idle"), play_out, chain(1), (0, (), ()), (), 0)
