"""The refusals: MeltError is any of them.

NoRules: what was handed in is not rules.
NoText: the text is not the writing of rules.
NoStep: the rule does not stand at this place of the word, or there is no such rule.
"""


class MeltError(ValueError):
    pass


class NoRules(MeltError):
    pass


class NoText(MeltError):
    pass


class NoStep(MeltError):
    pass
