"""Leastasked: a shelf of few places that keeps what is asked most."""
