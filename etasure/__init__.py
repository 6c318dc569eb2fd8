"""Etasure: what holds for all n about coefficients of q-series."""
