"""Relume: a power net that is lit again after a dark."""
