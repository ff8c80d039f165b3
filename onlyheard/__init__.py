"""Onlyheard: routines that are written out by what they heard alone."""
