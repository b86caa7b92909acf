"""Fieldlots: forces spread over fields."""
