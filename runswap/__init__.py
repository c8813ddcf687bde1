"""Runswap: rows of numbers whose runs are turned."""
