"""Damworks: water kept and let go month by month, with exact best plans and certificates."""
