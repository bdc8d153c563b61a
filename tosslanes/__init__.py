"""Tosslanes: skip lists, exact over all coins."""
