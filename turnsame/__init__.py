"""Turnsame: programs turned, and papers that show that they tell the same."""
