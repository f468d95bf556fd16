"""The refusals: one class for each, all under KinError."""


class KinError(ValueError):
    pass


class NoBoard(KinError):
    pass


class NoKinship(KinError):
    pass


class NotSquare(KinError):
    pass


class UnlikeSizes(KinError):
    pass


class TooMany(KinError):
    pass


class BadNumbers(KinError):
    pass


class BadNote(KinError):
    pass
