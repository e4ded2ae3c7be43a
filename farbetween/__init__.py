"""Farbetween: a house of chance machines within a tolerance, and sayings by worths that tell them apart."""
