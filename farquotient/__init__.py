"""Farquotient: quotients of polynomials that agree furthest with a row of numbers."""
