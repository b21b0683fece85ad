"""Lettolls: tolls of gates let to those who bid."""
