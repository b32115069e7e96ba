"""The refusals of untoldprimes."""


class PrimeError(ValueError):
    """Any refusal."""


class NoRest(PrimeError):
    """Refused: rests are not asked by such a thing."""


class NoPrime(PrimeError):
    """Refused: no place, or no prime."""


class NoText(PrimeError):
    """Refused: no text of a paper."""


class NoCommand(PrimeError):
    """Refused: no row of words that a desk knows."""
