"""Codes that grow step by step, for what is compiled (points 36 and 44)."""

# Stands, where it is asked for, ahead of what is laid for each tree; no house has it.
MARK = ("mark",)


class Coder:
    """A code that grows, and its rows of handlers."""

    def __init__(self, marked):
        self.marked = marked
        self.code = []
        self.rows = []

    def here(self):
        """The place of the next step."""
        return len(self.code)

    def lay_mark(self):
        """Lays a mark, if marks are asked for."""
        if self.marked:
            self.code.append(MARK)

    def lay_gap(self):
        """Lays a step that is told later, and returns its place."""
        self.code.append(None)
        return len(self.code) - 1

    def fill(self, gap, word):
        """Tells the step at a gap, whose goal is the next step."""
        self.code[gap] = (word, self.here())
