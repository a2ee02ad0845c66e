"""Craneyard: cranes on one rail that can't pass one another."""
