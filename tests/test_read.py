"""The events of texts, and their places, rule by rule."""

import unittest

from anchorpages.errors import Refused
from anchorpages.reader import read, refused

# A text, and its events; `-` is None, yes and no are True and False.

PLAIN_AND_QUOTED = [
    ('', [
    ]),
    ('# c\n\n', [
    ]),
    ('a', [
        'document no', "scalar - - plain 'a' 0 1", 'over no'
    ]),
    ('a b  # c\n', [
        'document no', "scalar - - plain 'a b' 0 3", 'over no'
    ]),
    ('a\n b\n\n\n  c # d\n', [
        'document no', "scalar - - plain 'a b\\n\\nc' 0 10", 'over no'
    ]),
    ("'a  b'", [
        'document no', "scalar - - single 'a  b' 0 6", 'over no'
    ]),
    ("'it''s'", [
        'document no', 'scalar - - single "it\'s" 0 7', 'over no'
    ]),
    ("'a  \n\n  b\n c '", [
        'document no', "scalar - - single 'a\\nb c ' 0 14", 'over no'
    ]),
    ('"a\\"\\\\\\/\\n\\t\\ \\\tb"', [
        'document no', 'scalar - - double \'a"\\\\/\\n\\t \\tb\' 0 18', 'over no'
    ]),
    ('"a \\\n  b\\\n\n c"', [
        'document no', "scalar - - double 'a b\\nc' 0 14", 'over no'
    ]),
    ('" a\n\t\n b "', [
        'document no', "scalar - - double ' a\\nb ' 0 10", 'over no'
    ]),
]

BLOCK_SCALARS = [
    ('- |\n a\n  b\n\n- >-\n  a\n  b\n', [
        'document no', 'sequence - - block 0', "scalar - - literal 'a\\n b\\n' 2 10",
        "scalar - - folded 'a b' 14 24", 'close 24', 'over no'
    ]),
    ('|+2\n  a\n\n', [
        'document no', "scalar - - literal ' a\\n\\n' 0 7", 'over no'
    ]),
    ('|2-\n  a\n b\n', [
        'document no', "scalar - - literal ' a\\nb' 0 10", 'over no'
    ]),
    ('>\n\n a\n\n\n b\n  c\n\n d\n e', [
        'document no', "scalar - - folded '\\na\\n\\nb\\n c\\n\\nd e' 0 21", 'over no'
    ]),
    ('|+\n\n\n', [
        'document no', "scalar - - literal '\\n\\n' 0 2", 'over no'
    ]),
    ('|\n', [
        'document no', "scalar - - literal '' 0 1", 'over no'
    ]),
    ('| # c\n a\n# d\n', [
        'document no', "scalar - - literal 'a\\n' 0 8", 'over no'
    ]),
    ('|', [
        'document no', "scalar - - literal '' 0 1", 'over no'
    ]),
    ('- |\n# c\n- b', [
        'document no', 'sequence - - block 0', "scalar - - literal '' 2 3", "scalar - - plain 'b' 10 11",
        'close 11', 'over no'
    ]),
]

BLOCKS = [
    ('- a\n-\n- b', [
        'document no', 'sequence - - block 0', "scalar - - plain 'a' 2 3", "scalar - - plain '' 5 5",
        "scalar - - plain 'b' 8 9", 'close 9', 'over no'
    ]),
    ('-   - a\n    - b\n-\n  - c\n- - - d', [
        'document no', 'sequence - - block 0', 'sequence - - block 4', "scalar - - plain 'a' 6 7",
        "scalar - - plain 'b' 14 15", 'close 15', 'sequence - - block 20', "scalar - - plain 'c' 22 23", 'close 23',
        'sequence - - block 26', 'sequence - - block 28', "scalar - - plain 'd' 30 31", 'close 31', 'close 31',
        'close 31', 'over no'
    ]),
    ('a: b\nc:\nd: \n  e: f\n', [
        'document no', 'mapping - - block 0', "scalar - - plain 'a' 0 1", "scalar - - plain 'b' 3 4",
        "scalar - - plain 'c' 5 6", "scalar - - plain '' 7 7", "scalar - - plain 'd' 8 9", 'mapping - - block 14',
        "scalar - - plain 'e' 14 15", "scalar - - plain 'f' 17 18", 'close 18', 'close 18', 'over no'
    ]),
    ('a:\n- b\n-\nc: d', [
        'document no', 'mapping - - block 0', "scalar - - plain 'a' 0 1", 'sequence - - block 3',
        "scalar - - plain 'b' 5 6", "scalar - - plain '' 8 8", 'close 8', "scalar - - plain 'c' 9 10",
        "scalar - - plain 'd' 12 13", 'close 13', 'over no'
    ]),
    ('a:\n  - b\n', [
        'document no', 'mapping - - block 0', "scalar - - plain 'a' 0 1", 'sequence - - block 5',
        "scalar - - plain 'b' 7 8", 'close 8', 'close 8', 'over no'
    ]),
    ('? a\n: b\n? c\n? - d\n  - e\n: - f\n  - g\n', [
        'document no', 'mapping - - block 0', "scalar - - plain 'a' 2 3", "scalar - - plain 'b' 6 7",
        "scalar - - plain 'c' 10 11", "scalar - - plain '' 11 11", 'sequence - - block 14',
        "scalar - - plain 'd' 16 17", "scalar - - plain 'e' 22 23", 'close 23', 'sequence - - block 26',
        "scalar - - plain 'f' 28 29", "scalar - - plain 'g' 34 35", 'close 35', 'close 35', 'over no'
    ]),
    ('? a: b\n  c: d\n: e: f\n', [
        'document no', 'mapping - - block 0', 'mapping - - block 2', "scalar - - plain 'a' 2 3",
        "scalar - - plain 'b' 5 6", "scalar - - plain 'c' 9 10", "scalar - - plain 'd' 12 13", 'close 13',
        'mapping - - block 16', "scalar - - plain 'e' 16 17", "scalar - - plain 'f' 19 20", 'close 20', 'close 20',
        'over no'
    ]),
    (': a\n', [
        'document no', 'mapping - - block 0', "scalar - - plain '' 0 0", "scalar - - plain 'a' 2 3", 'close 3',
        'over no'
    ]),
    ('? \n: a\n?\n', [
        'document no', 'mapping - - block 0', "scalar - - plain '' 1 1", "scalar - - plain 'a' 5 6",
        "scalar - - plain '' 8 8", "scalar - - plain '' 8 8", 'close 8', 'over no'
    ]),
    ('- : a\n- ? b\n', [
        'document no', 'sequence - - block 0', 'mapping - - block 2', "scalar - - plain '' 2 2",
        "scalar - - plain 'a' 4 5", 'close 5', 'mapping - - block 8', "scalar - - plain 'b' 10 11",
        "scalar - - plain '' 11 11", 'close 11', 'close 11', 'over no'
    ]),
    ('\'a\': b\n"c" : d\n[e]: f\n{g}: h\n*i : j\n', [
        'document no', 'mapping - - block 0', "scalar - - single 'a' 0 3", "scalar - - plain 'b' 5 6",
        "scalar - - double 'c' 7 10", "scalar - - plain 'd' 13 14", 'sequence - - flow 15',
        "scalar - - plain 'e' 16 17", 'close 18', "scalar - - plain 'f' 20 21", 'mapping - - flow 22',
        "scalar - - plain 'g' 23 24", "scalar - - plain '' 24 24", 'close 25', "scalar - - plain 'h' 27 28",
        'alias i 29 31', "scalar - - plain 'j' 34 35", 'close 35', 'over no'
    ]),
]

BRACKETS = [
    ('[]', [
        'document no', 'sequence - - flow 0', 'close 2', 'over no'
    ]),
    ('{}', [
        'document no', 'mapping - - flow 0', 'close 2', 'over no'
    ]),
    ('[a, \'b\', "c", [d], {e: f}, *g]', [
        'document no', 'sequence - - flow 0', "scalar - - plain 'a' 1 2", "scalar - - single 'b' 4 7",
        "scalar - - double 'c' 9 12", 'sequence - - flow 14', "scalar - - plain 'd' 15 16", 'close 17',
        'mapping - - flow 19', "scalar - - plain 'e' 20 21", "scalar - - plain 'f' 23 24", 'close 25',
        'alias g 27 29', 'close 30', 'over no'
    ]),
    ("[a: b, : c, d:, 'e':f, ? g : h, ? i, ? , [j] : k, *l : m, ? : n]", [
        'document no', 'sequence - - flow 0', 'mapping - - flow 1', "scalar - - plain 'a' 1 2",
        "scalar - - plain 'b' 4 5", 'close 5', 'mapping - - flow 7', "scalar - - plain '' 7 7",
        "scalar - - plain 'c' 9 10", 'close 10', 'mapping - - flow 12', "scalar - - plain 'd' 12 13",
        "scalar - - plain '' 14 14", 'close 14', 'mapping - - flow 16', "scalar - - single 'e' 16 19",
        "scalar - - plain 'f' 20 21", 'close 21', 'mapping - - flow 23', "scalar - - plain 'g' 25 26",
        "scalar - - plain 'h' 29 30", 'close 30', 'mapping - - flow 32', "scalar - - plain 'i' 34 35",
        "scalar - - plain '' 35 35", 'close 35', 'mapping - - flow 37', "scalar - - plain '' 38 38",
        "scalar - - plain '' 38 38", 'close 38', 'mapping - - flow 41', 'sequence - - flow 41',
        "scalar - - plain 'j' 42 43", 'close 44', "scalar - - plain 'k' 47 48", 'close 48', 'mapping - - flow 50',
        'alias l 50 52', "scalar - - plain 'm' 55 56", 'close 56', 'mapping - - flow 58',
        "scalar - - plain '' 60 60", "scalar - - plain 'n' 62 63", 'close 63', 'close 64', 'over no'
    ]),
    ('{a: b, c, : d, e:, \'f\':g, "h", ? i : j, ? k, ? , [l]: m, {n}, *o : p, ? : q, }', [
        'document no', 'mapping - - flow 0', "scalar - - plain 'a' 1 2", "scalar - - plain 'b' 4 5",
        "scalar - - plain 'c' 7 8", "scalar - - plain '' 8 8", "scalar - - plain '' 10 10",
        "scalar - - plain 'd' 12 13", "scalar - - plain 'e' 15 16", "scalar - - plain '' 17 17",
        "scalar - - single 'f' 19 22", "scalar - - plain 'g' 23 24", "scalar - - double 'h' 26 29",
        "scalar - - plain '' 29 29", "scalar - - plain 'i' 33 34", "scalar - - plain 'j' 37 38",
        "scalar - - plain 'k' 42 43", "scalar - - plain '' 43 43", "scalar - - plain '' 46 46",
        "scalar - - plain '' 46 46", 'sequence - - flow 49', "scalar - - plain 'l' 50 51", 'close 52',
        "scalar - - plain 'm' 54 55", 'mapping - - flow 57', "scalar - - plain 'n' 58 59",
        "scalar - - plain '' 59 59", 'close 60', "scalar - - plain '' 60 60", 'alias o 62 64',
        "scalar - - plain 'p' 67 68", "scalar - - plain '' 72 72", "scalar - - plain 'q' 74 75", 'close 78',
        'over no'
    ]),
    ('[a\n b, # c\n\n c\n ,]\n', [
        'document no', 'sequence - - flow 0', "scalar - - plain 'a b' 1 5", "scalar - - plain 'c' 13 14",
        'close 18', 'over no'
    ]),
    ("{a\n : b, 'c'\n : d,\n ? e\n f\n :\n g}", [
        'document no', 'mapping - - flow 0', "scalar - - plain 'a' 1 2", "scalar - - plain 'b' 6 7",
        "scalar - - single 'c' 9 12", "scalar - - plain 'd' 16 17", "scalar - - plain 'e f' 22 26",
        "scalar - - plain 'g' 31 32", 'close 33', 'over no'
    ]),
    ('a: [b,\n c]\n', [
        'document no', 'mapping - - block 0', "scalar - - plain 'a' 0 1", 'sequence - - flow 3',
        "scalar - - plain 'b' 4 5", "scalar - - plain 'c' 8 9", 'close 10', 'close 10', 'over no'
    ]),
    ('[a: b]: c\n', [
        'document no', 'mapping - - block 0', 'sequence - - flow 0', 'mapping - - flow 1',
        "scalar - - plain 'a' 1 2", "scalar - - plain 'b' 4 5", 'close 5', 'close 6', "scalar - - plain 'c' 8 9",
        'close 9', 'over no'
    ]),
]

PROPERTIES = [
    ('&a b', [
        'document no', "scalar a - plain 'b' 0 4", 'over no'
    ]),
    ('!t b', [
        'document no', "scalar - !t plain 'b' 0 4", 'over no'
    ]),
    ('!!t &a b', [
        'document no', "scalar a !!t plain 'b' 0 8", 'over no'
    ]),
    ('&a !t b', [
        'document no', "scalar a !t plain 'b' 0 7", 'over no'
    ]),
    ('! b', [
        'document no', "scalar - ! plain 'b' 0 3", 'over no'
    ]),
    ('&a\n!t\nb', [
        'document no', "scalar a !t plain 'b' 0 7", 'over no'
    ]),
    ('&a b: !t c\n&d e: &f g', [
        'document no', 'mapping - - block 0', "scalar a - plain 'b' 0 4", "scalar - !t plain 'c' 6 10",
        "scalar d - plain 'e' 11 15", "scalar f - plain 'g' 17 21", 'close 21', 'over no'
    ]),
    ('&a\nb: c', [
        'document no', 'mapping a - block 0', "scalar - - plain 'b' 3 4", "scalar - - plain 'c' 6 7", 'close 7',
        'over no'
    ]),
    ('&a !t\n- b', [
        'document no', 'sequence a !t block 0', "scalar - - plain 'b' 8 9", 'close 9', 'over no'
    ]),
    ('&a\n!t b: c', [
        'document no', 'mapping a - block 0', "scalar - !t plain 'b' 3 7", "scalar - - plain 'c' 9 10", 'close 10',
        'over no'
    ]),
    ('a: &b !t\n  c: d\n', [
        'document no', 'mapping - - block 0', "scalar - - plain 'a' 0 1", 'mapping b !t block 3',
        "scalar - - plain 'c' 11 12", "scalar - - plain 'd' 14 15", 'close 15', 'close 15', 'over no'
    ]),
    ('a: &b\n- c\n', [
        'document no', 'mapping - - block 0', "scalar - - plain 'a' 0 1", 'sequence b - block 3',
        "scalar - - plain 'c' 8 9", 'close 9', 'close 9', 'over no'
    ]),
    ('- &a\n- !t\n- &b !s\n- &c # d\n  e', [
        'document no', 'sequence - - block 0', "scalar a - plain '' 2 4", "scalar - !t plain '' 7 9",
        "scalar b !s plain '' 12 17", "scalar c - plain 'e' 20 30", 'close 30', 'over no'
    ]),
    ('- &a\n  &b c: d', [
        'document no', 'sequence - - block 0', 'mapping a - block 2', "scalar b - plain 'c' 7 11",
        "scalar - - plain 'd' 13 14", 'close 14', 'close 14', 'over no'
    ]),
    ("[&a, !t b, &c 'd', &e [f], !s : g, &h i: j]", [
        'document no', 'sequence - - flow 0', "scalar a - plain '' 1 3", "scalar - !t plain 'b' 5 9",
        "scalar c - single 'd' 11 17", 'sequence e - flow 19', "scalar - - plain 'f' 23 24", 'close 25',
        'mapping - - flow 27', "scalar - !s plain '' 27 29", "scalar - - plain 'g' 32 33", 'close 33',
        'mapping - - flow 35', "scalar h - plain 'i' 35 39", "scalar - - plain 'j' 41 42", 'close 42', 'close 43',
        'over no'
    ]),
    ("{&a : b, !t c: &d, &e 'f': !s g}", [
        'document no', 'mapping - - flow 0', "scalar a - plain '' 1 3", "scalar - - plain 'b' 6 7",
        "scalar - !t plain 'c' 9 13", "scalar d - plain '' 15 17", "scalar e - single 'f' 19 25",
        "scalar - !s plain 'g' 27 31", 'close 32', 'over no'
    ]),
    ('*a', [
        'document no', 'alias a 0 2', 'over no'
    ]),
    ('- *a\n- *b', [
        'document no', 'sequence - - block 0', 'alias a 2 4', 'alias b 7 9', 'close 9', 'over no'
    ]),
    ('a: *b', [
        'document no', 'mapping - - block 0', "scalar - - plain 'a' 0 1", 'alias b 3 5', 'close 5', 'over no'
    ]),
    ('&a -b: c', [
        'document no', 'mapping - - block 0', "scalar a - plain '-b' 0 5", "scalar - - plain 'c' 7 8", 'close 8',
        'over no'
    ]),
    ('&a |\n b\n', [
        'document no', "scalar a - literal 'b\\n' 0 7", 'over no'
    ]),
    ('- !t >-\n  b\n', [
        'document no', 'sequence - - block 0', "scalar - !t folded 'b' 2 11", 'close 11', 'over no'
    ]),
    ('!t\n|\n a', [
        'document no', "scalar - !t literal 'a' 0 7", 'over no'
    ]),
]

DOCUMENTS = [
    ('--- a\n', [
        'document yes', "scalar - - plain 'a' 4 5", 'over no'
    ]),
    ('---\na\n...\n', [
        'document yes', "scalar - - plain 'a' 4 5", 'over yes'
    ]),
    ('--- # c\n---\n', [
        'document yes', "scalar - - plain '' 3 3", 'over no', 'document yes', "scalar - - plain '' 11 11",
        'over no'
    ]),
    ('a\n---\nb\n...\nc\n', [
        'document no', "scalar - - plain 'a' 0 1", 'over no', 'document yes', "scalar - - plain 'b' 6 7",
        'over yes', 'document no', "scalar - - plain 'c' 12 13", 'over no'
    ]),
    ('--- |\n a\n--- >\n b\n', [
        'document yes', "scalar - - literal 'a\\n' 4 8", 'over no', 'document yes',
        "scalar - - folded 'b\\n' 13 17", 'over no'
    ]),
    ('---\n- a\n...\n# c\n...\n---', [
        'document yes', 'sequence - - block 4', "scalar - - plain 'a' 6 7", 'close 7', 'over yes', 'document yes',
        "scalar - - plain '' 23 23", 'over no'
    ]),
    ('--- &a\nb: c', [
        'document yes', 'mapping a - block 4', "scalar - - plain 'b' 7 8", "scalar - - plain 'c' 10 11", 'close 11',
        'over no'
    ]),
    ('a\n... # c\n\n', [
        'document no', "scalar - - plain 'a' 0 1", 'over yes'
    ]),
]

COMMENTS = [
    ('# a\n- # b\n  # c\n  d # e\n# f\n- e\n', [
        'document no', 'sequence - - block 4', "scalar - - plain 'd' 18 19", "scalar - - plain 'e' 30 31",
        'close 31', 'over no'
    ]),
    ('a: # b\n  # c\n  d', [
        'document no', 'mapping - - block 0', "scalar - - plain 'a' 0 1", "scalar - - plain 'd' 15 16", 'close 16',
        'over no'
    ]),
    ('a:\n# b\n  b\n\n# c\nc: d # e', [
        'document no', 'mapping - - block 0', "scalar - - plain 'a' 0 1", "scalar - - plain 'b' 9 10",
        "scalar - - plain 'c' 16 17", "scalar - - plain 'd' 19 20", 'close 20', 'over no'
    ]),
    ('? # a\n  b # c\n# d\n: # e\n c', [
        'document no', 'mapping - - block 0', "scalar - - plain 'b' 8 9", "scalar - - plain 'c' 25 26", 'close 26',
        'over no'
    ]),
    ('a #b', [
        'document no', "scalar - - plain 'a' 0 1", 'over no'
    ]),
    ('a#b', [
        'document no', "scalar - - plain 'a#b' 0 3", 'over no'
    ]),
    ('- - a\n  # b\n# c\n  - d', [
        'document no', 'sequence - - block 0', 'sequence - - block 2', "scalar - - plain 'a' 4 5",
        "scalar - - plain 'd' 20 21", 'close 21', 'close 21', 'over no'
    ]),
    ('-\n \n  a', [
        'document no', 'sequence - - block 0', "scalar - - plain 'a' 6 7", 'close 7', 'over no'
    ]),
    ('? a\n# b\n', [
        'document no', 'mapping - - block 0', "scalar - - plain 'a' 2 3", "scalar - - plain '' 3 3", 'close 3',
        'over no'
    ]),
    ('key:    |\n   a\n   b\nc: d', [
        'document no', 'mapping - - block 0', "scalar - - plain 'key' 0 3", "scalar - - literal 'a\\nb\\n' 8 19",
        "scalar - - plain 'c' 20 21", "scalar - - plain 'd' 23 24", 'close 24', 'over no'
    ]),
    ("a: 'b\n  c'\nd: e", [
        'document no', 'mapping - - block 0', "scalar - - plain 'a' 0 1", "scalar - - single 'b c' 3 10",
        "scalar - - plain 'd' 11 12", "scalar - - plain 'e' 14 15", 'close 15', 'over no'
    ]),
]

GROUPS = [PLAIN_AND_QUOTED, BLOCK_SCALARS, BLOCKS, BRACKETS, PROPERTIES, DOCUMENTS, COMMENTS]

# A header with its lines, in a document and in an entry of a sequence, and the value.
HEADERS = [
    ("|\n  a\n   b\n", "a\n b\n"),
    ("|\n  a\n   b", "a\n b"),
    ("|-\n  a\n\n", "a"),
    ("|+\n  a\n\n \n", "a\n\n\n"),
    ("|+\n  a\n  ", "a\n"),
    ("|+\n  a\n   ", "a\n "),
    ("|\n  a\n\n", "a\n"),
    ("|\n\n \n  a\n", "\n\na\n"),
    ("|\n  \n  a\n", "\na\n"),
    ("|\n  a\n  \n   \n  b\n", "a\n\n \nb\n"),
    ("|\n  \ta\n", "\ta\n"),
    ("|\n  #a\n", "#a\n"),
    ("|\n  a #b\n", "a #b\n"),
    ("|\n  a: b\n  - c\n", "a: b\n- c\n"),
    ("|\n  a  \n", "a  \n"),
    (">\n  a\n  b\n", "a b\n"),
    (">\n  a\n\n  b\n", "a\nb\n"),
    (">\n  a\n\n\n  b\n", "a\n\nb\n"),
    (">\n  a\n   b\n  c\n", "a\n b\nc\n"),
    (">\n  a\n\n   b\n\n  c\n", "a\n\n b\n\nc\n"),
    (">\n  a\n  \tb\n  c\n", "a\n\tb\nc\n"),
    (">\n\n  a\n", "\na\n"),
    (">-\n  a\n  b\n\n\n", "a b"),
    (">+\n  a\n  b\n\n\n", "a b\n\n\n"),
    (">\n  a\n  b", "a b"),
    (">\n  ---\n  a\n", "--- a\n"),
    ("|+\n\n", "\n"),
    ("|+\n", ""),
    ("|+", ""),
    ("|\n\n\n", ""),
    ("|-\n\n\n", ""),
    (">+\n \n  \n", "\n\n"),
    (">+\n \n  ", "\n"),
    ("|-  # note\n  a\n", "a"),
    ("|   \n  a\n", "a\n"),
]

# In an entry of a sequence at column 0: the header, its lines, and the value.
DIGITS = [
    ("|2\n  a\n", "a\n"),
    ("|1\n  a\n", " a\n"),
    ("|1-\n\n  a\n b\n", "\n a\nb"),
    ("|-1\n  a\n", " a"),
    ("|+2\n   a\n\n", " a\n\n"),
    (">1\n  a\n b\n", " a\nb\n"),
    ("|9\n         a\n", "a\n"),
    ("|3\n  \n   a\n", "\na\n"),
    ("|3\n   \n   a\n", "\na\n"),
    ("|3\n    \n   a\n", " \na\n"),
]


def told(event):
    """An event as one string."""
    words = []
    for index, part in enumerate(event):
        if index == 4 and event[0] == "scalar":
            words.append(repr(part))
        else:
            words.append("-" if part is None else "yes" if part is True else "no" if part is False else str(part))
    return " ".join(words)


def values(text):
    return [event[4] for event in read(text) if event[0] == "scalar"]


class Events(unittest.TestCase):
    def test_cases(self):
        for group in GROUPS:
            for text, rows in group:
                with self.subTest(text=text):
                    self.assertEqual([told(event) for event in read(text)], rows)
                    self.assertIsNone(refused(text))

    def test_kinds(self):
        for group in GROUPS:
            for text, _ in group:
                events = read(text)
                self.assertIs(type(events), list)
                self.assertTrue(all(type(event) is tuple for event in events))
                for event in events:
                    for part in event:
                        self.assertIn(type(part), (str, int, bool, type(None)))
                self.assertIsNot(read(text), events)

    def test_no_string(self):
        for thing in (None, 1, True, b"a", ["a"], ("a",), {"a": 1}, object(), Refused(1), int):
            with self.subTest(thing=thing):
                self.assertEqual(refused(thing), -1)
                with self.assertRaises(Refused) as caught:
                    read(thing)
                self.assertEqual(caught.exception.place, -1)

    def test_names_of_arguments(self):
        self.assertEqual(read(text="a"), read("a"))
        self.assertEqual(refused(text="]"), 0)


class BlockScalars(unittest.TestCase):
    def test_headers(self):
        for header, value in HEADERS:
            for begin in ("", "---\n", "--- ", "- ", "-\n ", "a: ", "? ", "&b ", "- !t\n  "):
                text = begin + header
                style = "literal" if header[0] == "|" else "folded"
                with self.subTest(text=text):
                    found = [event for event in read(text)
                             if event[0] == "scalar" and event[3] == style]
                    self.assertEqual([event[4] for event in found], [value])
                    start = begin.find("&") if "&" in begin else begin.find("!") if "!" in begin else len(begin)
                    self.assertEqual(found[0][5], start)

    def test_digits(self):
        for header, value in DIGITS:
            with self.subTest(header=header):
                self.assertEqual(values("- " + header), [value])
                self.assertEqual(values("a: " + header), ["a", value])
        self.assertEqual(values("|1\na\n"), ["a\n"])
        self.assertEqual(values("|2\n a\n"), ["a\n"])
        self.assertEqual(values("|1\n---\n"), ["", ""])

    def test_ends(self):
        for text, end in (("|", 1), ("|2-", 3), ("|+ # c\n", 2), ("|\n a", 4), ("|\n a\n", 4), ("|\n a  \n\n", 6),
                          ("|\n\n\n", 1), ("- |\n a\n# c", 6), (">-\n a\n\n b\n\n", 9)):
            with self.subTest(text=text):
                self.assertEqual([event[-1] for event in read(text) if event[0] == "scalar"], [end])

    def test_marks(self):
        self.assertEqual(values("|\na\n---\nb"), ["a\n", "b"])
        self.assertEqual(values("|\na\n---b"), ["a\n---b"])
        self.assertEqual(values("|\na\n--- b"), ["a\n", "b"])
        self.assertEqual(values("|\na\n...\n"), ["a\n"])
        self.assertEqual(values("|\n---\nb"), ["", "b"])
        self.assertEqual(values("|\n  \n---\nb"), ["", "b"])
        self.assertEqual(values("|\n a\n---\nb"), ["a\n", "b"])

    def test_comments_behind(self):
        self.assertEqual(values("- |\n  a\n # c\n\n   # d\n- b"), ["a\n", "b"])
        self.assertEqual(values("- |\n  a\n  # c\n"), ["a\n# c\n"])
        self.assertEqual(values("- |\n   \n# c\n- b"), ["", "b"])


if __name__ == "__main__":
    unittest.main()
