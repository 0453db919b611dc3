"""Leastplans: questions answered by plans that nothing undercuts."""
