"""What stands above the duties and the sheets."""


class Rule:
    """A rule that a text names by its word."""

    def word(self):
        """The word of the rule; each rule under this one tells its own."""
        return "rule"
