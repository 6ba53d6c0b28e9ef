"""Questions, what a state answers them, and whence the rows of an answer come."""
