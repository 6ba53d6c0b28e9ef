"""Names, places, states, and the tables that a state is read as."""
