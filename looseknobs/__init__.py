"""Circuits over a few wires, and what holds of them at all angles of their knobs."""
