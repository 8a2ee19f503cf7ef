"""Arrivalmill: what a run of actors hangs on."""
