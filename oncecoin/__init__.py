"""Oncecoin: a shop over several houses."""
