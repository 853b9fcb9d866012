"""The refusals. None stands under another, so that each is taken by its own name alone."""


class CoinError(ValueError):
    pass


class NoLock(CoinError):
    pass


class NoDeed(CoinError):
    pass


class NoFit(CoinError):
    pass


class NoBlock(CoinError):
    pass


class BadBlock(CoinError):
    pass


class NoRules(CoinError):
    pass


class Known(CoinError):
    pass


class NoAhead(CoinError):
    pass


class NoSuch(CoinError):
    pass


class Other(CoinError):
    pass


class NoText(CoinError):
    pass


class NoRow(CoinError):
    pass
