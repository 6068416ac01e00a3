"""All errors of the package; each stands directly under UndoError."""


class UndoError(ValueError):
    """What every error of the package is."""


# reading texts
class BadText(UndoError):
    """A text breaks the rules of its language at this spot."""
    def __init__(self, spot, what):
        self.spot, self.what = spot, what


class BadName(UndoError):
    """A name at this spot is not what it must be."""
    def __init__(self, spot, what):
        self.spot, self.what = spot, what


class TooMany(UndoError):
    """There are more than so many."""
    def __init__(self, most):
        self.most = most


# words, kinds, steps and webs
class BadWidth(UndoError):
    """The width is no whole number from 1 to 12."""


class BadInputs(UndoError):
    """The inputs are not as many words as there must be."""
    def __init__(self, index, what):
        self.index, self.what = index, what


class BadKind(UndoError):
    """This is no kind of a step."""


class BadStep(UndoError):
    """The kind or the operands of a step are wrong."""


class BadWeb(UndoError):
    """The steps are no web."""
    def __init__(self, place, what):
        self.place, self.what = place, what


class BadBare(UndoError):
    """The befores and the end are no bare web."""
    def __init__(self, place, what):
        self.place, self.what = place, what


class BadBareText(UndoError):
    """This part of a bare web's text cannot be read."""
    def __init__(self, place):
        self.place = place


class NoPlace(UndoError):
    """The web has no such place."""
    def __init__(self, place):
        self.place = place


class BadPlaces(UndoError):
    """This entry is no place, or came already."""
    def __init__(self, index):
        self.index = index


class NoArrow(UndoError):
    """The second is no before of the first."""
    def __init__(self, place, before):
        self.place, self.before = place, before


# rows of moves
class BadRoom(UndoError):
    """The room is no whole number from 1 to 200."""


class BadRow(UndoError):
    """This move of a row cannot be done."""
    def __init__(self, index, what):
        self.index, self.what = index, what


class BadWanted(UndoError):
    """This cannot be wanted of a row."""


class NotShown(UndoError):
    """The row is not shown."""
    def __init__(self, what):
        self.what = what


class NotKept(UndoError):
    """The row is not kept."""
    def __init__(self, what):
        self.what = what


class NoFoot(UndoError):
    """The row is no foot."""
    def __init__(self, what):
        self.what = what


class BadChange(UndoError):
    """The change cannot be done."""
    def __init__(self, what):
        self.what = what


class BadCells(UndoError):
    """The cells are not as they must be."""
    def __init__(self, index):
        self.index = index


# prices by search
class NoWay(UndoError):
    """No way leads there within the room."""


class Fewer(UndoError):
    """This room is below the price."""
    def __init__(self, room):
        self.room = room


class HasRow(UndoError):
    """A row has this room, so there is no closed lot."""
    def __init__(self, room):
        self.room = room


# asker and challenger
class BadPlan(UndoError):
    """The plan is not right."""
    def __init__(self, what):
        self.what = what


class BadRounds(UndoError):
    """The rounds are no whole number from 1 to 200."""


class Enough(UndoError):
    """So many are enough, so no book holds out."""
    def __init__(self, needed):
        self.needed = needed


class Over(UndoError):
    """The game has a winner already."""


class Taken(UndoError):
    """The place is filled or asked already."""
    def __init__(self, place):
        self.place = place


class BadAnswer(UndoError):
    """The answer is neither True nor False."""


class NoTurn(UndoError):
    """There is no turn to take back."""


# namings, painters and sums
class BadPainting(UndoError):
    """This is no painting."""
    def __init__(self, what):
        self.what = what


class BadNaming(UndoError):
    """The naming plan is not right."""
    def __init__(self, what):
        self.what = what


class BadBook(UndoError):
    """The book has a fault."""
    def __init__(self, what):
        self.what = what


class BadPrime(UndoError):
    """This is neither 0 nor a prime number up to 97."""


class BadFactor(UndoError):
    """The factors are not as they must be."""
    def __init__(self, index):
        self.index = index


class BadSum(UndoError):
    """The sum is not right."""
    def __init__(self, what):
        self.what = what


class BadPart(UndoError):
    """This part has a fault."""
    def __init__(self, index, what):
        self.index, self.what = index, what


class NoSum(UndoError):
    """No right sum has this room."""
    def __init__(self, room):
        self.room = room


# trees and chains
class BadNeeds(UndoError):
    """The needs are not as they must be."""
    def __init__(self, index):
        self.index = index


class NotTree(UndoError):
    """This place is a before of two places or more."""
    def __init__(self, place):
        self.place = place


class BadNumbering(UndoError):
    """The numbering is not right."""
    def __init__(self, what):
        self.what = what


class BadLength(UndoError):
    """The length is no whole number from 1 to 10 ** 30."""


class BadNumber(UndoError):
    """The told row has no such number."""


class NeverStands(UndoError):
    """The told row never has this standing."""


# statements that run both ways
class BadProgram(UndoError):
    """The routines are no program."""
    def __init__(self, where, what):
        self.where, self.what = where, what


class NoRoutine(UndoError):
    """The program has no routine of this name."""
    def __init__(self, name):
        self.name = name


class BadFuel(UndoError):
    """The fuel is no whole number within its bounds."""


class OutOfFuel(UndoError):
    """The run needs more than the fuel."""


class Stuck(UndoError):
    """The run cannot go on."""
    def __init__(self, where, what, done, words):
        self.where, self.what, self.done, self.words = where, what, done, words


class BadTrail(UndoError):
    """This deed of a trail cannot be done."""
    def __init__(self, index, what):
        self.index, self.what = index, what


class NoName(UndoError):
    """The program has no such name."""
    def __init__(self, name):
        self.name = name


class BadMany(UndoError):
    """This cannot be the number of the names."""


class BadTable(UndoError):
    """The table is not as it must be."""
    def __init__(self, index):
        self.index = index


# cells, code and the machine
class BadHeld(UndoError):
    """The holding is not as it must be."""
    def __init__(self, index):
        self.index = index


class BadPlaced(UndoError):
    """This placed move cannot be done."""
    def __init__(self, index, what):
        self.index, self.what = index, what


class NotHeld(UndoError):
    """No cell holds the end."""


class NoCell(UndoError):
    """No cell holds this place."""
    def __init__(self, place):
        self.place = place


class NotARow(UndoError):
    """The program is not that of a placed row."""
    def __init__(self, index):
        self.index = index


class BadCode(UndoError):
    """The rows are no code."""
    def __init__(self, row, what):
        self.row, self.what = row, what


class BadState(UndoError):
    """This is no state of the code."""
    def __init__(self, what):
        self.what = what


class Halted(UndoError):
    """The machine has come to its end."""
    def __init__(self, way):
        self.way = way


class RowStuck(UndoError):
    """The machine cannot pass this row."""
    def __init__(self, row, what):
        self.row, self.what = row, what


class BadWay(UndoError):
    """This is no way to go."""


# gates, free places and the bench
class BadGate(UndoError):
    """This is no gate."""
    def __init__(self, index, what):
        self.index, self.what = index, what


class BadBits(UndoError):
    """The bits are not as they must be."""


class BadDone(UndoError):
    """So many cannot have been done."""


class BadFree(UndoError):
    """The free places are not as they must be."""
    def __init__(self, index):
        self.index = index


class BadEdit(UndoError):
    """The edit cannot be done."""
    def __init__(self, what):
        self.what = what


class BadLayer(UndoError):
    """There is no such layer."""


class NoEdit(UndoError):
    """There is no edit to take back."""
