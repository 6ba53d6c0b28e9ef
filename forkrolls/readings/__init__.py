"""What is read at the places of a lot, and why."""
