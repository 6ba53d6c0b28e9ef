"""What each hand may see and do."""
