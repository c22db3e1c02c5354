"""Frameback: made code, and the way back out of it."""
