"""Staged: programs that run in two stages."""
