"""Deeprests: rests by ever higher powers of a prime."""
