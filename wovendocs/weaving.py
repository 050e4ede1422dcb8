"""The calls on one document, and what they answer."""

from wovendocs.document import Document, Part, quotes_of
from wovendocs.lines import NotSuchText
from wovendocs.reading import Fault, read_document
from wovendocs.unweaving import unwoven_text
from wovendocs.woven import Woven, ended

READ = 0
WEAVE = 1
BLOCK = 2
NUMBER = 3
PART = 4
CHUNK = 5
FILE = 6
SETTING = 7
QUOTES = 8
INDEX = 9
UNWEAVE = 10
SIZE = 11

NOT_WOVEN = -1
NO_SUCH_NUMBER = -2
NO_SUCH_NAME = -3
NO_PROSE = -4
TOO_LONG_TO_HOLD = -6
TOO_LONG_TO_ANSWER = -7

MOST_HELD_BYTES = 20000
MOST_ANSWERED_BYTES = 24000


# A call's number is none of those that can be answered.
class UnknownCall(ValueError):
    pass


# The document that is held, and what it is woven into.
class Held:
    def __init__(self):
        self.hold(Woven(Document()))

    def hold(self, woven):
        self.woven = woven
        self.document = woven.document

    def has_block(self, i):
        return 0 <= i < len(self.document.blocks)


# What the calls answer, one after the other, on a new object.
def answers(calls):
    held = Held()
    given = []
    at = 0
    while at < len(calls):
        number = calls[at]
        at += 1
        if number in (READ, CHUNK, FILE, SETTING, UNWEAVE):
            end = at + 1 + calls[at]
            answer = answer_row_call(held, number, calls[at + 1:end])
            at = end
        elif number in (BLOCK, NUMBER, PART, QUOTES, INDEX):
            answer = answer_number_call(held, number, calls[at])
            at += 1
        else:
            answer = answer_bare_call(held, number)
        given.append(len(answer))
        given.extend(answer)
    return given


def answer_row_call(held, number, row):
    if number == READ:
        return answer_read(held, row)
    if number == UNWEAVE:
        return answer_unweave(held, row)
    if number == CHUNK:
        return answer_chunk(held, tuple(row))
    if number == FILE:
        return answer_parts(held.document.file_parts, tuple(row))
    return answer_parts(held.document.askers, tuple(row))


def answer_number_call(held, number, k):
    if number == BLOCK:
        return answer_block(held, k)
    if number == NUMBER:
        return answer_number(held, k)
    if number == PART:
        return answer_part(held, k)
    if number == QUOTES:
        return answer_quotes(held, k)
    return answer_index(held, k)


def answer_bare_call(held, number):
    if number == WEAVE:
        return short(held.woven.text)
    if number == SIZE:
        return answer_size(held)
    raise UnknownCall(f"call {number} can not be answered")


def counted(row):
    return [len(row)] + row


def short(text):
    if len(text) > MOST_ANSWERED_BYTES:
        return [TOO_LONG_TO_ANSWER]
    return counted(text)


def answer_read(held, text):
    if len(text) > MOST_HELD_BYTES:
        return [TOO_LONG_TO_HOLD]
    found = read_document(text)
    if isinstance(found, Fault):
        return [found.line, found.reason]
    held.hold(Woven(found))
    return [0, len(found.blocks)]


def answer_block(held, i):
    if not held.has_block(i):
        return [NO_SUCH_NUMBER]
    return short(ended(held.woven.block_lines[i]))


def answer_number(held, i):
    if not held.has_block(i):
        return [NO_SUCH_NUMBER]
    block = held.document.blocks[i]
    return [block.number if isinstance(block, Part) else 0]


def answer_part(held, k):
    document = held.document
    if k < 1 or k > len(document.parts):
        return [NO_SUCH_NUMBER]
    part = document.parts[k - 1]
    neighbours = [document.part_before(part), document.part_behind(part)]
    return [part.block] + neighbours + counted(document.used_parts(part))


def answer_chunk(held, name):
    document = held.document
    if name not in document.standing:
        return [NO_SUCH_NAME]
    answer = []
    for rows in (document.chunk_parts, document.users, document.tellers):
        answer.extend(counted(rows.get(name, [])))
    return answer


# The numbers of the parts of a file, or of those that ask a setting.
def answer_parts(rows, name):
    if name not in rows:
        return [NO_SUCH_NAME]
    return counted(rows[name])


def answer_quotes(held, i):
    if not held.has_block(i):
        return [NO_SUCH_NUMBER]
    block = held.document.blocks[i]
    if isinstance(block, Part):
        return [NO_PROSE]
    quotes = quotes_of(block.text)
    answer = [len(quotes)]
    for quote in quotes:
        answer.extend(counted(quote))
    return answer


def answer_index(held, k):
    if k < 0 or k >= len(held.woven.index_lines):
        return [NO_SUCH_NUMBER]
    return counted(held.woven.index_lines[k])


def answer_unweave(held, text):
    try:
        document_text = unwoven_text(text)
    except NotSuchText:
        return [NOT_WOVEN]
    found = read_document(document_text)
    if isinstance(found, Fault):
        return [NOT_WOVEN]
    woven = Woven(found)
    if woven.text != text:
        return [NOT_WOVEN]
    if len(document_text) > MOST_HELD_BYTES:
        return [TOO_LONG_TO_HOLD]
    held.hold(woven)
    return [len(found.blocks)]


def answer_size(held):
    woven = held.woven
    line_count = sum([len(lines) for lines in woven.block_lines])
    counts = [len(held.document.blocks), len(held.document.parts), line_count]
    return counts + [len(woven.index_lines), len(woven.text)]
