"""What two lots do unlike, and what comes of them together."""
