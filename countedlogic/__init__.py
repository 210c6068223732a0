"""Formulas of a logic that counts: countedlogic.formulas.answers(calls)."""
