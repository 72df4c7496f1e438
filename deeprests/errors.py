"""The refusals. Each is a RestError, and none stands under another one."""


class RestError(ValueError):
    pass


class NoDepth(RestError):
    pass


class NoInverse(RestError):
    pass


class NoBall(RestError):
    pass


class NoSingle(RestError):
    pass


class TooDeep(RestError):
    pass


class NoSmall(RestError):
    pass


class NoParts(RestError):
    pass


class NoPrime(RestError):
    pass


class NoText(RestError):
    pass


class NoName(RestError):
    pass


class NoRow(RestError):
    pass


class TooGreat(RestError):
    pass
