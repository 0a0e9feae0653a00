"""Pieces and letters as texts, and read again."""

from pieceways.checks import are_figures
from pieceways.errors import NoLetter, NoPiece, NoText
from pieceways.letters import Letter, Piece

HALVES = "0123456789abcdef"
BASE = 16
NO_SIGN = "."
MORE_SIGN = "+"
KEEP_SIGN = "!"
WORDS_OF_A_PIECE = 7
WORDS_OF_A_LETTER = 5


def shown_key(key):
    return " ".join([str(key[0]), key[1], key[2]])


def shown_truth(truth, sign):
    return sign if truth else NO_SIGN


def shown_bytes(body):
    return "".join([HALVES[byte // BASE] + HALVES[byte % BASE] for byte in body])


def shown(piece):
    more = shown_truth(piece.more, MORE_SIGN)
    keep = shown_truth(piece.keep, KEEP_SIGN)
    return " ".join([shown_key(piece.key()), str(piece.at), more, keep, shown_bytes(piece.body)])


def shown_letter(letter):
    return " ".join([shown_key(letter.key()), shown_truth(letter.keep, KEEP_SIGN), shown_bytes(letter.body)])


def words_of(text, count):
    if not isinstance(text, str):
        raise NoText("this is no text")
    words = text.split(" ")
    if len(words) != count:
        raise NoText("a piece's text has seven words, a letter's five, parted by single blanks")
    return words


def read_number(word):
    # No number of a letter or a piece has more figures than are_figures lets by.
    if not are_figures(word):
        raise NoText("a number stands by its figures, without a 0 ahead")
    return int(word)


def read_truth(word, sign):
    if word != sign and word != NO_SIGN:
        raise NoText("a sign is none of those that may stand there")
    return word == sign


def read_bytes(word):
    if len(word) % 2 == 1 or not all([sign in HALVES for sign in word]):
        raise NoText("a byte stands by two signs of 0 to 9, a to f")
    return [
        BASE * HALVES.index(word[place]) + HALVES.index(word[place + 1])
        for place in range(0, len(word), 2)
    ]


def read_piece(text):
    words = words_of(text, WORDS_OF_A_PIECE)
    number = read_number(words[0])
    at = read_number(words[3])
    more = read_truth(words[4], MORE_SIGN)
    keep = read_truth(words[5], KEEP_SIGN)
    body = read_bytes(words[6])
    try:
        return Piece(number, words[1], words[2], at, body, more, keep)
    except NoPiece:
        raise NoText("no piece has this text") from None


def read_letter(text):
    words = words_of(text, WORDS_OF_A_LETTER)
    number = read_number(words[0])
    keep = read_truth(words[3], KEEP_SIGN)
    body = read_bytes(words[4])
    try:
        return Letter(number, words[1], words[2], body, keep)
    except NoLetter:
        raise NoText("no letter has this text") from None
