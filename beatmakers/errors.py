"""The refusals, one class each, so that a caller can tell them apart or take them all by BeatError."""


class BeatError(ValueError):
    pass


class BadCount(BeatError):
    pass


class BadVoter(BeatError):
    pass


class BadWeb(BeatError):
    pass


class TooMany(BeatError):
    pass


class BadNote(BeatError):
    pass
