"""Forkrolls: tables with branches that answer as plain stores do."""
