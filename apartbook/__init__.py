"""Apartbook: one book of counts, kept by houses apart."""
