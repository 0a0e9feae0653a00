"""Cutting letters, and pieces again, by the widths of the roads that they go over."""

from pieceways.checks import are_widths, is_length, is_width
from pieceways.errors import NoLetter, NoWidth, TooWide
from pieceways.letters import STEP, Piece


def check_widths(widths):
    if not are_widths(widths):
        raise NoWidth("widths are a list of one to twenty whole numbers from 8 to 5000")


def full_length(width):
    # Behind a piece that is not the last one the next begins, and pieces begin at numbers divisible by eight alone.
    return width - width % STEP


def part_of(piece, low, high):
    more = piece.more or high < len(piece.body)
    return Piece(piece.number, piece.sender, piece.goal, piece.at + low, piece.body[low:high], more, piece.keep)


def cut_again(piece, width):
    if not is_width(width):
        raise NoWidth("a width is a whole number from 8 to 5000")
    length = len(piece.body)
    if piece.keep and length > width:
        raise TooWide("it may not be cut, and is longer than the width")
    told = []
    low = 0
    while length - low > width:
        high = low + full_length(width)
        told.append(part_of(piece, low, high))
        low = high
    told.append(part_of(piece, low, length))
    return told


def cut(letter, width):
    # A letter is cut as the one piece that it is where no road is too narrow for it.
    whole = Piece(letter.number, letter.sender, letter.goal, 0, letter.body, False, letter.keep)
    return cut_again(whole, width)


def all_cut_again(pieces, width):
    told = []
    for piece in pieces:
        told.extend(cut_again(piece, width))
    return told


def cut_over(pieces, widths):
    for width in widths:
        pieces = all_cut_again(pieces, width)
    return pieces


def sent(letter, widths):
    # All widths are looked at ahead of the cutting: NoWidth goes ahead of TooWide.
    check_widths(widths)
    return cut_over(cut(letter, widths[0]), widths[1:])


def least(length, widths):
    check_widths(widths)
    if not is_length(length):
        raise NoLetter("a letter has 1 to 4000 bytes")
    width = min(widths)
    if length <= width:
        return 1
    # The last piece alone may fill the width; what it leaves goes into pieces of the full length, begun ones counted.
    full = full_length(width)
    return 1 + (length - width + full - 1) // full


def best(letter, widths):
    check_widths(widths)
    return cut(letter, min(widths))
