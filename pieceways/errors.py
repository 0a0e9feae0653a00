"""The refusals. Each stands straight under WayError, so that taking one never takes another one."""


class WayError(ValueError):
    pass


class NoLetter(WayError):
    pass


class NoPiece(WayError):
    pass


class NoWidth(WayError):
    pass


class TooWide(WayError):
    pass


class NoRule(WayError):
    pass


class NoTime(WayError):
    pass


class NoKey(WayError):
    pass


class NoText(WayError):
    pass


class NoRow(WayError):
    pass


class NoRoom(WayError):
    pass


class NoRoad(WayError):
    pass
