"""Days of stays that the tests try, and what can be told of them without the program."""

import itertools


def flat(spans):
    return [hour for span in spans for hour in span]


def there(numbers, spans, hour):
    return [number for number in numbers if spans[number][0] <= hour < spans[number][1]]


def fit(numbers, spans, places):
    return all(len(there(numbers, spans, hour)) <= places for hour in range(24))


def fullest_hour(numbers, spans):
    """How many there are in the fullest hour, by marking each hour of each stay."""
    marks = [0] * 24
    for number in numbers:
        for hour in range(*spans[number]):
            marks[hour] += 1
    return max(marks)


def most_that_fit(spans, places):
    """By trying every choice of stays, the largest ones first."""
    for size in range(len(spans), 0, -1):
        for chosen in itertools.combinations(range(len(spans)), size):
            if fit(chosen, spans, places):
                return size
    return 0


def small_rows():
    """Every row of up to four stays within three hours."""
    every_span = [(first, until) for first in range(3) for until in range(first + 1, 4)]
    for size in range(5):
        for spans in itertools.product(every_span, repeat=size):
            yield list(spans)


def scattered_rows():
    """Rows of ten stays over the whole day, the same ones in every run."""
    state = 1
    for _ in range(480):
        spans = []
        for _ in range(10):
            state = (state * 1103515245 + 12345) % 2147483648
            first = state // 65536 % 24
            state = (state * 1103515245 + 12345) % 2147483648
            spans.append((first, first + 1 + state // 65536 % (24 - first)))
        yield spans


def every_row():
    return itertools.chain(small_rows(), scattered_rows())


def small_days():
    """The small rows, each with up to four places."""
    for spans in small_rows():
        for places in range(5):
            yield spans, places


def scattered_days():
    """The scattered rows, forty with each number of places up to eleven."""
    for at, spans in enumerate(scattered_rows()):
        yield spans, at // 40
