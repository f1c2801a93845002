"""The words that say how readers and writers look at lines [41], [51], and those of roles and rules."""

SIGHTS = ("whole", "start")
LOOKS = ("none", "whole", "start", "part", "any")
CARES = ("sight", "order", "further", "finish")
# The words of a sight hang on the signs.
CARE_WORDS = {"order": ("inner", "outer"), "further": ("refuse", "close"), "finish": ("refuse", "close")}
ROLE_WORDS = ("next", "end")
RULE_WORDS = ("front", "whole")
