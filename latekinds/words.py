"""Words: integers as they stand in texts."""

FIGURES = "0123456789"
# Python itself refuses to write much greater integers at once.
CHUNK = 10 ** 64


def is_figures(word, most):
    """Whether it is an integer of at most so many figures, without a sign and needless zeros."""
    if word.strip(FIGURES) != "" or not 0 < len(word) <= most:
        return False
    return word == "0" or word[0] != "0"


def is_signed(word, most):
    """Whether it is such an integer, or one with `-` ahead that is not 0."""
    if word.startswith("-"):
        return word != "-0" and is_figures(word[1:], most)
    return is_figures(word, most)


def is_upto(word, high):
    """Whether it is an integer from 0 to high without a sign and needless zeros."""
    return is_figures(word, len(str(high))) and int(word) <= high


def decimal(number):
    """The integer, of any size, as a word."""
    chunks = []
    rest = abs(number)
    while rest >= CHUNK:
        chunks.append(str(rest % CHUNK).zfill(64))
        rest //= CHUNK
    sign = "-" if number < 0 else ""
    return sign + str(rest) + "".join(chunks[::-1])


def joined(words):
    """The words with commas between, `-` for none."""
    return ",".join(words) if words else "-"


def parted(word):
    """The words that stand there with commas between, none for `-`."""
    return [] if word == "-" else word.split(",")
