"""A bench: a circuit under edits."""
