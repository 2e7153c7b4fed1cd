"""Names: those of systems and questions, and those in terms."""

MOST_SIGNS = 12
LETTERS = "abcdefghijklmnopqrstuvwxyz"
DIGITS = "0123456789"


def is_name(text):
    """True if the text is a name."""
    if not 1 <= len(text) <= MOST_SIGNS:
        return False
    return text[0] in LETTERS and all([sign in LETTERS or sign in DIGITS for sign in text])
