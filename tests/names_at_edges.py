"""Names that are good, and names that are none."""

GOOD = ["a", "z", "az", "abcdefgh", "zzzzzzzz", "put", "when", "cell", "mod", "else", "own"]

BAD = [
    "", "abcdefghi", "a" * 9, "a" * 30, "A", "Z", "aB", "Ab", "abcdefgH", "1", "a1", "1a", "a1b", "abcdefg8",
    "_", "a_b", "a b", " a", "a ", "a\n", "\na", "a-b", "-", "~", "?", "a.", "`", "{", "a{", "a`",
    "\u00e4", "a\u00e4", "\u00df", "\u03b1", "\uff41", "\u0131", "\u0661",
]
