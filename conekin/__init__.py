"""Conekin: forms of three letters, and those beside them."""
