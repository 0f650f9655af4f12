"""Blocks behind which all that was done in them is taken back."""


class Trial:
    """Puts back what its owner held at the beginning of a block when the block ends, also by an error."""

    def __init__(self, owner):
        self.owner = owner
        self.kept = None

    def __enter__(self):
        self.kept = self.owner.held

    def __exit__(self, kind, value, trace):
        owner = self.owner
        owner.held = self.kept
