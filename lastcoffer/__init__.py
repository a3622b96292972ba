"""Lastcoffer: an insurer's reserve, and the chance that it does not last."""
