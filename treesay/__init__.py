"""Treesay: what is said over all walks of a machine, and over some."""
