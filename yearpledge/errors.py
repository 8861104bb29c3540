"""The refusals, one class for each."""


class PledgeError(ValueError):
    pass


class BadTable(PledgeError):
    pass


class BadRate(PledgeError):
    pass


class BadPledge(PledgeError):
    pass


class NoYear(PledgeError):
    pass


class BadCount(PledgeError):
    pass
