"""The refusals, one class for each."""


class CouncilError(ValueError):
    pass


class BadCouncil(CouncilError):
    pass


class BadGroup(CouncilError):
    pass


class NoMember(CouncilError):
    pass


class Unlike(CouncilError):
    pass


class BadWeights(CouncilError):
    pass


class BadText(CouncilError):
    pass
