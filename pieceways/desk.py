"""The desk: rows of words ask the functions and a room, and are answered by texts."""

from pieceways.checks import are_figures
from pieceways.cutting import best, cut, cut_again, least, sent
from pieceways.errors import NoRoom, NoRow
from pieceways.plain import Lacking, Whole, judged
from pieceways.rooms import Room
from pieceways.texts import read_letter, read_piece, shown, shown_bytes, shown_key, shown_letter


def row_words(row, count):
    words = row.split(" ")
    if len(words) != count or "" in words:
        raise NoRow("these are not the words of such a row")
    return words


def two_words_and_rest(row):
    # The rest is left as it is: whether it is a piece's or a letter's text, its reader tells.
    parts = row.split(" ", 2)
    if len(parts) != 3 or "" in parts:
        raise NoRow("these are not the words of such a row")
    return parts


def number_of(word):
    if not are_figures(word):
        raise NoRow("a number stands by one to twelve figures, without a 0 ahead")
    return int(word)


def numbers_of(word):
    return [number_of(part) for part in word.split(",")]


def joined(texts, nothing):
    return "; ".join(texts) if texts else nothing


def shown_span(span):
    low = span[0]
    high = "" if span[1] is None else span[1]
    return f"{low}-{high}"


def shown_spans(spans):
    return " ".join([shown_span(span) for span in spans])


def shown_pieces(pieces):
    return "; ".join([shown(piece) for piece in pieces])


def shown_event(event):
    if event[0] == "whole":
        return "whole " + shown_letter(event[1])
    # Behind the key stands the reason of what is gone, and nothing of the others.
    return " ".join([event[0], shown_key(event[1])] + list(event[2:]))


def shown_events(events):
    return joined([shown_event(event) for event in events], "ok")


def shown_answer(answer):
    if isinstance(answer, Whole):
        return "whole " + shown_bytes(answer.body)
    if isinstance(answer, Lacking):
        return "lacking " + shown_spans(answer.spans)
    return "unlike " + str(answer.at)


def say_cut(row):
    parts = two_words_and_rest(row)
    width = number_of(parts[1])
    return shown_pieces(cut(read_letter(parts[2]), width))


def say_again(row):
    parts = two_words_and_rest(row)
    width = number_of(parts[1])
    return shown_pieces(cut_again(read_piece(parts[2]), width))


def say_over_road(row):
    parts = two_words_and_rest(row)
    widths = numbers_of(parts[1])
    letter = read_letter(parts[2])
    return shown_pieces(sent(letter, widths) if parts[0] == "sent" else best(letter, widths))


def say_least(row):
    words = row_words(row, 3)
    length = number_of(words[1])
    return str(least(length, numbers_of(words[2])))


def say_judge(row):
    parts = row.partition(" ")[2].split("; ")
    if "" in parts:
        raise NoRow("a rule is wanted, and something behind each semicolon and blank")
    pieces = [read_piece(part) for part in parts[1:]]
    return shown_answer(judged(pieces, parts[0]))


class Desk:
    def __init__(self):
        # None while there is no room yet.
        self.room = None

    def say(self, row):
        if not isinstance(row, str):
            raise NoRow("a row is a text")
        first = row.partition(" ")[0]
        if first == "cut":
            return say_cut(row)
        if first == "again":
            return say_again(row)
        if first in ("sent", "best"):
            return say_over_road(row)
        if first == "least":
            return say_least(row)
        if first == "judge":
            return say_judge(row)
        return self.say_of_room(first, row)

    def say_of_room(self, first, row):
        if first == "room":
            return self.say_room(row)
        if first == "come":
            return self.say_come(row)
        if first == "tick":
            return self.say_tick(row)
        if first in ("lacks", "since"):
            return self.say_of_key(row)
        if first in ("kept", "bytes", "ends"):
            return self.say_of_all(row)
        raise NoRow("no row begins so")

    # Asked for behind the reading of a row: NoRow and NoText go ahead of NoRoom.
    def wanted_room(self):
        if self.room is None:
            raise NoRoom("there is no room yet")
        return self.room

    def say_room(self, row):
        words = row_words(row, 6)
        wait = number_of(words[2])
        space = number_of(words[3])
        self.room = Room(words[1], wait, space, words[4], words[5])
        return "ok"

    def say_come(self, row):
        parts = two_words_and_rest(row)
        time = number_of(parts[1])
        piece = read_piece(parts[2])
        return shown_events(self.wanted_room().come(time, piece))

    def say_tick(self, row):
        time = number_of(row_words(row, 2)[1])
        return shown_events(self.wanted_room().tick(time))

    def say_of_key(self, row):
        words = row_words(row, 4)
        key = (number_of(words[1]), words[2], words[3])
        room = self.wanted_room()
        return shown_spans(room.lacks(key)) if words[0] == "lacks" else str(room.since(key))

    def say_of_all(self, row):
        word = row_words(row, 1)[0]
        room = self.wanted_room()
        if word == "kept":
            return joined([shown_key(key) for key in room.kept()], "none")
        if word == "bytes":
            return str(room.bytes_kept())
        ends = room.ends_at()
        return "none" if ends is None else str(ends)
