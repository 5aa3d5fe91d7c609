"""The text of a code, as a list of bytes: three digits and a check letter, which tells most slips of the pen."""

from postdistricts.codebook import LEAST_CODE, NO_CODE

DIGIT_ZERO = 48
DIGIT_NINE = 57
LETTER_A = 65
TEXT_LENGTH = 4


def text_of(code):
    first = code // 100
    second = code // 10 % 10
    third = code % 10
    letter = (first + 2 * second + 3 * third) % 11
    return [DIGIT_ZERO + first, DIGIT_ZERO + second, DIGIT_ZERO + third, LETTER_A + letter]


def code_read_from(text):
    if len(text) != TEXT_LENGTH:
        return NO_CODE
    number = 0
    for sign in text[:-1]:
        if sign < DIGIT_ZERO or sign > DIGIT_NINE:
            return NO_CODE
        number = 10 * number + sign - DIGIT_ZERO
    if number < LEAST_CODE or text != text_of(number):
        return NO_CODE
    return number
