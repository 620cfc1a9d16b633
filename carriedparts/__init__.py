"""Carriedparts: files whose parts older programs carry along without knowing them."""
