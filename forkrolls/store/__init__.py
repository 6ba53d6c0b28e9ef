"""A store of branches and marks."""
