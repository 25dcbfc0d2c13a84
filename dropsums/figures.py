"""Whole numbers from 0 on, written by figures."""

FIGURES = "0123456789"


def is_figures(word):
    """Whether the word writes a whole number: no 0 ahead but in 0 itself."""
    if word == "" or not all([sign in FIGURES for sign in word]):
        return False
    return word == "0" or word[0] != "0"
