"""Sameroom: every program run by reversible steps in the same memory."""
