"""A plain reader of the tests' own, byte by byte; its answers are the kind's name and the fields."""


def whole(body):
    return ("Whole", {"body": body})


def missing(*spans):
    return ("Lacking", {"spans": list(spans)})


def unlike(at):
    return ("Unlike", {"at": at})


def end_told_by(taken):
    for piece in taken:
        if not piece.more:
            return piece.at + len(piece.body)
    return None


def strange_behind(taken, piece):
    the_end = end_told_by(taken)
    end = piece.at + len(piece.body)
    if the_end is not None and end > the_end:
        return True
    if the_end is not None and end == the_end and piece.more:
        return True
    if not piece.more and the_end is not None and end != the_end:
        return True
    if not piece.more and not all(end > other.at + len(other.body) for other in taken if other.more):
        return True
    return False


def lacking_numbers(standing, the_end):
    high = the_end if the_end is not None else max(standing) + 1
    told = []
    for number in range(high):
        if number in standing:
            continue
        if told and told[-1][1] == number:
            told[-1] = (told[-1][0], number + 1)
        else:
            told.append((number, number + 1))
    return told + ([(high, None)] if the_end is None else [])


def read_byte_by_byte(pieces, rule):
    taken = []
    standing = {}
    for piece in pieces:
        if strange_behind(taken, piece):
            if rule == "refuse":
                return unlike(piece.at)
            continue
        for place, byte in enumerate(piece.body):
            number = piece.at + place
            if standing.get(number, byte) == byte or rule == "last":
                standing[number] = byte
            elif rule == "refuse":
                return unlike(number)
        taken.append(piece)
        the_end = end_told_by(taken)
        if the_end is not None and all(number in standing for number in range(the_end)):
            return whole([standing[number] for number in range(the_end)])
    return missing(*lacking_numbers(standing, end_told_by(taken)))
