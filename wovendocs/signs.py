"""The bytes that texts are made of, and the words that are made of bytes."""

LINE_END = 10
FIRST_SIGN = 32
LAST_SIGN = 126

BLANK = 32
HASH = 35
ROUND_LEFT = 40
ROUND_RIGHT = 41
COMMA = 44
HYPHEN = 45
POINT = 46
SLASH = 47
COLON = 58
ANGLE_LEFT = 60
ANGLE_RIGHT = 62
AT = 64
SQUARE_RIGHT = 93
UNDERLINE = 95
CURLY_LEFT = 123
BAR = 124
CURLY_RIGHT = 125

MOST_NAME_BYTES = 30
MOST_PATH_BYTES = 40
MOST_SHORT_NAME_BYTES = 12
MOST_ARGUMENT_BYTES = 40


# The bytes of a written ASCII text.
def coded(words):
    return [ord(sign) for sign in words]


# What stands before, between and behind the places where row has the byte.
def split_at(row, byte):
    pieces = []
    piece = []
    for one in row:
        if one == byte:
            pieces.append(piece)
            piece = []
        else:
            piece.append(one)
    pieces.append(piece)
    return pieces


def is_sign(byte):
    return FIRST_SIGN <= byte <= LAST_SIGN


def is_small_letter(byte):
    return 97 <= byte <= 122


def is_digit(byte):
    return 48 <= byte <= 57


def is_letter(byte):
    return is_small_letter(byte) or 65 <= byte <= 90


def is_path_mark(byte):
    return byte in (POINT, UNDERLINE, SLASH, HYPHEN)


def is_list_mark(byte):
    return byte in (COMMA, ROUND_LEFT, ROUND_RIGHT, CURLY_LEFT, CURLY_RIGHT, AT)


def is_word(row):
    if len(row) == 0:
        return False
    return all([is_small_letter(byte) or is_digit(byte) or byte == HYPHEN for byte in row])


# Whether row is a chunk's name.
def is_name(row):
    if len(row) > MOST_NAME_BYTES:
        return False
    return all([is_word(word) for word in split_at(row, BLANK)])


def is_path(row):
    if len(row) < 1 or len(row) > MOST_PATH_BYTES:
        return False
    return all([is_letter(byte) or is_digit(byte) or is_path_mark(byte) for byte in row])


def is_short_name(row):
    if len(row) < 1 or len(row) > MOST_SHORT_NAME_BYTES or not is_small_letter(row[0]):
        return False
    return all([is_small_letter(byte) or is_digit(byte) for byte in row])


def is_argument(row):
    if len(row) > MOST_ARGUMENT_BYTES:
        return False
    if len(row) > 0 and (row[0] == BLANK or row[-1] == BLANK):
        return False
    return all([is_sign(byte) and not is_list_mark(byte) for byte in row])
