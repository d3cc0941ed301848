"""Words: one to eight small letters."""


def is_word(thing):
    if not isinstance(thing, str) or not 1 <= len(thing) <= 8:
        return False
    return all(["a" <= sign <= "z" for sign in thing])
