"""Verdicts on tracked changes: see trackverdict.verdicts.answers."""
