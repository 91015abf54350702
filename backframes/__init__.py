"""Backframes: code with frame states, judged beside the source that it was made from."""
