"""The form of names: one to eight signs, small letters and figures, a letter first."""

from dialweir.errors import BadName

MOST_SIGNS = 8
LETTERS = "abcdefghijklmnopqrstuvwxyz"
SIGNS = "abcdefghijklmnopqrstuvwxyz0123456789"


def check_name(name):
    """Refuse what is not of the form of names."""
    if len(name) == 0 or len(name) > MOST_SIGNS:
        raise BadName(name)
    if name[0] not in LETTERS or any([sign not in SIGNS for sign in name]):
        raise BadName(name)
