"""What is left of a web where nothing that it tells is to be missed."""
