"""Lines of a document's text, taken for headers and for lines of chunk parts."""

from wovendocs.document import CODE, ELSE, END_OF_IF, IF, Line, Part, Use
from wovendocs.signs import ANGLE_LEFT, ANGLE_RIGHT, AT, BLANK, COMMA, CURLY_LEFT, CURLY_RIGHT
from wovendocs.signs import ROUND_LEFT, ROUND_RIGHT
from wovendocs.signs import coded, is_argument, is_name, is_path, is_short_name, split_at

CHUNK_START = "@chunk "
FILE_START = "@file "
IF_START = "@if "
ELSE_TEXT = "@else"
END_OF_IF_TEXT = "@fi"
PART_END = "@end"

MOST_PARAMETERS = 4


# A text is not of the form that it is read for.
class NotSuchText(ValueError):
    pass


# A name and what is listed in round brackets behind it; nothing listed without brackets.
class NameAndList:
    def __init__(self, name, listed):
        self.name = name
        self.listed = listed


def begins_with(text, start):
    return text[:len(start)] == coded(start)


def behind(text, start):
    return text[len(start):]


def read_name_and_list(text):
    if ROUND_LEFT not in text:
        return NameAndList(read_name(text), [])
    left = text.index(ROUND_LEFT)
    if text[-1] != ROUND_RIGHT:
        raise NotSuchText()
    return NameAndList(read_name(text[:left]), read_list(text[left + 1:-1]))


def read_name(text):
    if not is_name(text):
        raise NotSuchText()
    return tuple(text)


# The listed texts, which have a comma and a blank between neighbours.
def read_list(text):
    pieces = split_at(text, COMMA)
    listed = [tuple(pieces[0])]
    for piece in pieces[1:]:
        if piece[:1] != [BLANK]:
            raise NotSuchText()
        listed.append(tuple(piece[1:]))
    return listed


# The part, still without lines, that has this header.
def read_header(text):
    if begins_with(text, CHUNK_START):
        return read_chunk_header(text)
    if begins_with(text, FILE_START):
        return read_file_header(text)
    raise NotSuchText()


def read_chunk_header(text):
    found = read_name_and_list(behind(text, CHUNK_START))
    parameters = found.listed
    if len(parameters) > MOST_PARAMETERS or len(set(parameters)) != len(parameters):
        raise NotSuchText()
    if not all([is_short_name(parameter) for parameter in parameters]):
        raise NotSuchText()
    return Part(text, False, found.name, parameters)


def read_file_header(text):
    path = behind(text, FILE_START)
    if not is_path(path):
        raise NotSuchText()
    return Part(text, True, tuple(path), [])


# The line of a chunk part that has this text.
def read_line(text):
    if begins_with(text, IF_START):
        return read_if(text)
    if text == coded(ELSE_TEXT):
        return Line(ELSE, text)
    if text == coded(END_OF_IF_TEXT):
        return Line(END_OF_IF, text)
    return read_code_line(text)


def read_if(text):
    setting = behind(text, IF_START)
    if not is_short_name(setting):
        raise NotSuchText()
    line = Line(IF, text)
    line.setting = tuple(setting)
    return line


def read_code_line(text):
    line = Line(CODE, text)
    at = 0
    while at < len(text):
        if text[at] == AT:
            at = read_piece(line, at)
        else:
            at += 1
    return line


# Reads what begins with the @ at this place; gives back the place behind it.
def read_piece(line, at):
    sign = line.text[at + 1:at + 2]
    if sign == [AT]:
        return at + 2
    if sign == [CURLY_LEFT]:
        return read_use(line, at + 2)
    if sign == [ANGLE_LEFT]:
        return read_parameter(line, at + 2)
    raise NotSuchText()


def read_use(line, start):
    # Neither names nor arguments hold a curly bracket, so the first one behind ends the use.
    end = place_of(line.text, CURLY_RIGHT, start)
    found = read_name_and_list(line.text[start:end])
    if not all([is_argument(argument) for argument in found.listed]):
        raise NotSuchText()
    line.uses.append(Use(found.name, end + 1))
    return end + 1


def read_parameter(line, start):
    end = place_of(line.text, ANGLE_RIGHT, start)
    parameter = line.text[start:end]
    if not is_short_name(parameter):
        raise NotSuchText()
    line.parameters.append(tuple(parameter))
    return end + 1


# The first place of the byte from start on.
def place_of(text, byte, start):
    for at in range(start, len(text)):
        if text[at] == byte:
            return at
    raise NotSuchText()
