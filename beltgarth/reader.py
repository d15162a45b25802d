"""Texts that are read as programs."""

from beltgarth.checks import check
from beltgarth.errors import NoLine

LETTERS = "abcdefghijklmnopqrstuvwxyz"
FIGURES = "0123456789"
SIGNS = ("+", "-", "*", "<", "=")
WORDS = ("part", "call", "say", "jump", "test", "give")


def read(text):
    """The program that is written so, let by; or NoLine, or NoProgram."""
    lines = [line_read(line) for line in text.split("\n")]
    refuse_forms(lines)
    numbers = numbers_of_parts(lines)
    # A line without a form is told ahead of every call of no part, so this is not looked at line by line above.
    refuse_calls(lines, numbers)
    program = program_of(lines, numbers)
    check(program)
    return program


def refuse_forms(lines):
    """NoLine of the first line without a form."""
    for n, line in enumerate(lines):
        # A row ahead of the first part is at line 0, or has a line ahead that is refused itself.
        if line is None or n == 0 and line[0] != "part":
            raise NoLine(n)


def refuse_calls(lines, numbers):
    """NoLine of the first call of a name that no part has."""
    for n, line in enumerate(lines):
        if line[0] == "call" and line[2] not in numbers:
            raise NoLine(n)


def numbers_of_parts(lines):
    """From each part's name to the number of the first part that has it."""
    names = [line[1] for line in lines if line[0] == "part"]
    numbers = {}
    for k, name in enumerate(names):
        if name not in numbers:
            numbers[name] = k
    return numbers


def program_of(lines, numbers):
    """The program of lines that are read, its calls by the parts' numbers."""
    parts = []
    for line in lines:
        if line[0] == "part":
            parts.append((line[1], line[2], []))
        else:
            parts[-1][2].append(numbered(line, numbers))
    return tuple([(part[0], part[1], tuple(part[2])) for part in parts])


def numbered(row, numbers):
    """The row, a call with the called part's number instead of its name."""
    if row[0] == "call":
        return ("call", row[1], numbers[row[2]], row[3])
    return row


def line_read(line):
    """The row that is written so, a call with a name; ("part", name, params) of a part's line; None of no line."""
    words = line.split(" ")
    if len(words) > 1 and words[1] == "=":
        return setting_read(words)
    if words[0] == "part" and len(words) > 1 and are_names(words[1:]):
        return ("part", words[1], tuple(words[2:]))
    if words[0] in ("say", "give") and len(words) == 2 and is_name(words[1]):
        return (words[0], words[1])
    if words[0] == "jump" and len(words) == 2 and is_number(words[1]):
        return ("jump", int(words[1]))
    if words[0] == "test" and len(words) == 3 and is_name(words[1]) and is_number(words[2]):
        return ("test", words[1], int(words[2]))
    return None


def setting_read(words):
    """The row of a line whose second word is the sign of setting, or None."""
    name = words[0]
    if not is_name(name):
        return None
    if len(words) == 3 and is_number(words[2]) and int(words[2]) < 2 ** 64:
        return ("num", name, int(words[2]))
    if len(words) > 3 and words[2] == "call" and are_names(words[3:]):
        return ("call", name, words[3], tuple(words[4:]))
    if len(words) == 5 and words[3] in SIGNS and is_name(words[2]) and is_name(words[4]):
        return ("op", name, words[3], words[2], words[4])
    return None


def are_names(words):
    """Whether each of the words is a name."""
    return all([is_name(word) for word in words])


def is_name(word):
    """Whether the word is a name: one to eight small letters, and no word that a line's form bears."""
    if len(word) < 1 or len(word) > 8 or word in WORDS:
        return False
    return all([sign in LETTERS for sign in word])


def is_number(word):
    """Whether the word is a number: 1 to 20 figures, no 0 ahead but of 0 itself."""
    if len(word) < 1 or len(word) > 20:
        return False
    if word[0] == "0" and word != "0":
        return False
    return all([sign in FIGURES for sign in word])
