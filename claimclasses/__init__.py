"""Claimclasses: what claims cost in classes, for all rows of claims."""
