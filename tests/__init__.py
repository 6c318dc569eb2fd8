"""The tests of etasure."""
