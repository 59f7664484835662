"""The refusals: each one a class of its own, straight under OrderError."""


class OrderError(ValueError):
    pass


class BadRow(OrderError):
    pass


class BadNumber(OrderError):
    pass


class BadRings(OrderError):
    pass


class Unlike(OrderError):
    pass


class BadText(OrderError):
    pass
