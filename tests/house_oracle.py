"""Another way to find the first wrong line of a house, by whole texts instead of line by line."""

import re

NAME = '(?!(?:main|house|rest) )[a-z]{1,8}'
NUMBER = '(?:0|[1-9][0-9]*)'
FORMS = {
    'days': re.compile(f'days ({NUMBER})'),
    'place': re.compile(f'(?:flat|bare) ({NAME}) ([1-9])'),
    'price': re.compile(f'price ({NUMBER}) ({NUMBER})'),
    'lives': re.compile(f'lives ({NAME}) ({NAME}) ({NUMBER}) ({NUMBER})'),
}
LEAST_ENDS = ([], ['flat zz 1'], ['days 14', 'flat zz 1'])


def kind_of(line):
    for kind, form in FORMS.items():
        if form.fullmatch(line):
            return kind
    return None


def told(kind, lines):
    return [FORMS[kind].fullmatch(line).groups() for line in lines if kind_of(line) == kind]


def is_complete(lines):
    """Whether these lines, as a whole, are the text of a house."""
    kinds = [kind_of(line) for line in lines]
    if None in kinds or kinds != sorted(kinds, key=list(FORMS).index):
        return False
    if kinds.count('days') != 1 or not 1 <= kinds.count('place') <= 4:
        return False
    if kinds.count('price') > 3 or kinds.count('lives') > 8:
        return False
    if not any(line.startswith('flat ') for line in lines):
        return False
    many = int(told('days', lines)[0][0])
    places = [name for name, room in told('place', lines)]
    if not 1 <= many <= 14 or len(places) != len(set(places)):
        return False
    return good_prices(many, told('price', lines)) and good_stays(many, places, told('lives', lines))


def good_prices(many, rows):
    days = [int(day) for day, number in rows]
    if days != sorted(set(days)) or any(day >= many for day in days):
        return False
    return all(int(number) < 100 for day, number in rows)


def good_stays(many, places, rows):
    taken = []
    for person, place, first, behind in rows:
        if place not in places or not int(first) < int(behind) <= many:
            return False
        taken += [(place, day) for day in range(int(first), int(behind))]
    return len(taken) == len(set(taken))


def wrong_line(text):
    """What BadHouse has for this text, None if it is the text of a house."""
    lines = text.split('\n')
    for many in range(1, len(lines) + 1):
        if not any(is_complete(lines[:many] + end) for end in LEAST_ENDS):
            return many
    return None if is_complete(lines) else len(lines) + 1
