"""Armedexits: performed stretches whose way back lies in a cell or on a stack."""
