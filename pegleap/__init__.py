"""Pegleap: pegs that leap over one another, and what they never come to."""
