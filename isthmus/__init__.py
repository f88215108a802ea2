"""Isthmus: a dependent type theory whose types are finite groupoids."""
