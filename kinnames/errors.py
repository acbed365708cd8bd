"""The refusals: all stand under LikeError, none under another."""


class LikeError(ValueError):
    pass


class NoBook(LikeError):
    pass


class NoOrder(LikeError):
    pass


class NoName(LikeError):
    pass


class NoWish(LikeError):
    pass


class NoNumber(LikeError):
    pass


class NotMade(LikeError):
    pass


class TooShort(LikeError):
    pass


class Nothing(LikeError):
    pass


class NoText(LikeError):
    pass
