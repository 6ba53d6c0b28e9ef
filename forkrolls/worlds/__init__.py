"""The ways to which the orders of a lot lead, and the states by them."""
