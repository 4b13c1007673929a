"""Rightatlast: classical derivations that are run by guesses and corrections."""
