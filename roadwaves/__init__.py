"""Roadwaves: who stands where on a road, decided for all places and moments."""
