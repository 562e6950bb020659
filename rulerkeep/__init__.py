"""Rulerkeep: restore points that live by the zeros of their ticks."""
