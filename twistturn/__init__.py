"""Twistturn: two moves on fractions, dances that are alike or unlike, and what shows it."""
