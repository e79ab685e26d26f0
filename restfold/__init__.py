"""Restfold: clocks that come together."""
