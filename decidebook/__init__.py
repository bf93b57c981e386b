"""Decidebook: books of decisions, one room for each meaning."""
