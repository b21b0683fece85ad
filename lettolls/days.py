"""Days, kept as spans; quarters and years."""

from lettolls.plain import number_in

LAST_DAY = 3639
QUARTER_DAYS = 91
YEAR_DAYS = 364
QUARTERS = 40


def merged(pairs):
    """The rising list of as few pairs as can be that have just the days of these."""
    out = []
    for first, last in sorted(pairs):
        # a span that begins on the day behind another one belongs to it, too
        if out and first <= out[-1][1] + 1:
            out[-1] = (out[-1][0], max(out[-1][1], last))
        else:
            out.append((first, last))
    return out


def remaining(pairs, first, last):
    """What is left of the pairs without the days from first to last."""
    out = []
    for start, end in pairs:
        if start < first:
            out.append((start, min(end, first - 1)))
        if end > last:
            out.append((max(start, last + 1), end))
    return out


def span_text(first, last):
    return str(first) if first == last else f"{first}-{last}"


class Days:
    """A set of days."""

    def __init__(self, spans=None):
        self.pairs = merged([] if spans is None else spans)

    def spans(self):
        return list(self.pairs)

    def has(self, day):
        return any([first <= day <= last for first, last in self.pairs])

    def first_day(self):
        return self.pairs[0][0] if self.pairs else None

    def joined(self, other):
        return Days(self.pairs + other.pairs)

    def without(self, other):
        left = self.pairs
        for first, last in other.pairs:
            left = remaining(left, first, last)
        return Days(left)

    def common(self, other):
        # what is in both is what stays of this one without its days that the other one hasn't
        return self.without(self.without(other))

    def __len__(self):
        return len([day for first, last in self.pairs for day in range(first, last + 1)])

    def __eq__(self, other):
        return isinstance(other, Days) and self.pairs == other.pairs

    def __str__(self):
        if not self.pairs:
            return "-"
        return " ".join([span_text(first, last) for first, last in self.pairs])

    def __repr__(self):
        return f"Days({self.pairs})"


def span_in(word):
    """The pair (first, last) that a word tells, None where it tells none."""
    head, dash, tail = word.partition("-")
    first = number_in(head, LAST_DAY)
    last = number_in(tail, LAST_DAY) if dash else first
    if first is None or last is None or first > last:
        return None
    return (first, last)


def days_in(text):
    """The Days whose str the text is, None where there are none such."""
    if text == "-":
        return Days()
    spans = [span_in(word) for word in text.split(" ")]
    if None in spans:
        return None
    days = Days(spans)
    # spans that fall, touch or overlap, and a day by itself written as a pair, are told otherwise by str
    return days if str(days) == text else None


def year_of(day):
    return day // YEAR_DAYS


def quarter_of(day):
    return day // QUARTER_DAYS


def quarter_span(quarter):
    """The pair of the quarter's first and last days."""
    first = quarter * QUARTER_DAYS
    return (first, first + QUARTER_DAYS - 1)


def year_span(year):
    """The pair of the year's first and last days."""
    first = year * YEAR_DAYS
    return (first, first + YEAR_DAYS - 1)


def runs_of(marks):
    """The stretches (first, last, what), each as long as can be, of rising pairs (day, what): so from that day on."""
    found = []
    for day, what in marks:
        if not found or found[-1][1] != what:
            found.append((day, what))
    ends = [day - 1 for day, what in found[1:]] + [LAST_DAY]
    return [(first, last, what) for (first, what), last in zip(found, ends)]
