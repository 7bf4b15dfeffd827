"""Another way to make bills: by fractions, for one use at a time, payday by payday."""

from fractions import Fraction

from tests.use_lists import counter


def known(book, run, use):
    """{meter: {morning: number}} as known on the run.

    With a use, a number that stands now, or is expected, is what the meter shows if this is the use.
    Without one, all numbers are as told (and none is expected).
    """
    told = [row for row in book.told if run > book.today or row[0] <= run]
    last, now = {}, {}
    for rows, kept in ((told, last), (book.told, now)):
        for when, meter, morning, number in rows:
            kept[meter, morning] = number
    if run > book.today:
        for meter, morning in book.expected:
            if morning <= run:
                last[meter, morning] = now[meter, morning] = 'expected'
    found = {meter: {0: Fraction(0)} for meter in book.house.meters}
    for (meter, morning), number in last.items():
        if number is not None:
            same = use is not None and now[meter, morning] == number
            found[meter][morning] = Fraction(counter(book.house, use, meter, morning) if same else number)
    return found


def height(points, behind, morning):
    """Where the line through the points is on a morning."""
    mornings = sorted(points)
    ahead = [at for at in mornings if at <= morning][-1]
    later = [at for at in mornings if at > morning]
    if later:
        share = Fraction(morning - ahead, later[0] - ahead)
        return points[ahead] * (1 - share) + points[later[0]] * share
    if behind == 'nothing' or behind == 'before' and ahead == 0:
        return points[ahead]
    if behind == 'before':
        elder = mornings[-2]
        return points[ahead] + (points[ahead] - points[elder]) / (ahead - elder) * (morning - ahead)
    return points[ahead] + behind * (morning - ahead)


def reckoned(book, rule, run, use):
    """{(place, day): what is reckoned}; the rest is called rest."""
    points, found = known(book, run, use), {}
    for day in range(run):
        grown = {meter: height(points[meter], rule.behind, day + 1) - height(points[meter], rule.behind, day)
                 for meter in points}
        flats = [grown[meter] for meter in points if meter != 'main']
        for meter in points:
            if meter != 'main':
                found[meter, day] = grown[meter]
        found['rest', day] = grown['main'] - sum(flats) if len(points['main']) > 1 else Fraction(0)
    return found


def payers(rule, house, place, day):
    if place != 'rest':
        return [house.lives(place, day)]
    living = [house.lives(name, day) for name, room, inner in house.flats]
    people = sorted(set(living) - {'house'})
    return {'house': ['house'], 'places': living, 'heads': people or ['house']}[rule.rest]


def bills(book, rule, use=None):
    """{(run, person): what is charged}, {(run, place, day): (payday, what is laid)}."""
    house, elder, first = book.house, {}, {}
    charges, slips = {}, {}
    for run in rule.runs(house):
        if use is None and run > book.today:
            break
        now = reckoned(book, rule, run, use)
        for person in house.people:
            charges[run, person] = Fraction(0)
        for place, day in now:
            if (place, day) not in first:
                first[place, day] = day if rule.block == 'days' else run - 1
                payday = first[place, day]
            else:
                payday = first[place, day] if rule.late == 'back' else run - 1
            amount = now[place, day] - elder.get((place, day), 0)
            slips[run, place, day] = payday, amount
            some = payers(rule, house, place, payday)
            for person in some:
                charges[run, person] += amount * house.price(payday) / len(some)
        elder = now
    return charges, slips


def random_book(chance, book, use, honest=True, deep=3):
    """Let the book be told much, as this use shows it, or also else."""
    house = book.house
    density = chance.choice((0.1, 0.3, 0.6))
    late = chance.choice((0, 0.3))
    for morning in range(1, house.days + 1):
        if chance.random() < 0.15:
            continue
        book.go(morning)
        for meter in house.meters:
            if chance.random() < density:
                read = chance.randint(1, morning) if chance.random() < late else morning
                book[meter, read] = number(chance, house, use, meter, read, honest)
        for meter, read, shown in chance.sample(book.numbers.rows, min(len(book), 2)):
            if chance.random() < 0.15:
                book[meter, read] = number(chance, house, use, meter, read, honest)
            elif chance.random() < 0.1:
                book.drop(meter, read)
        if morning < house.days and chance.random() < 0.4:
            meter, later = chance.choice(house.meters), chance.randint(morning + 1, house.days)
            if (meter, later) not in book.expected:
                book.expect(meter, later)
        if chance.random() < 0.1:
            break
    return book


def number(chance, house, use, meter, morning, honest):
    right = counter(house, use, meter, morning)
    # What was told wrong may stay so, or be put right later.
    return right if honest or chance.random() < 0.6 else max(0, right + chance.randint(-4, 4))


def put_right(book, use):
    """Let all false numbers be put right."""
    for meter, morning, told in book.numbers.rows:
        right = counter(book.house, use, meter, morning)
        if told != right:
            book[meter, morning] = right
