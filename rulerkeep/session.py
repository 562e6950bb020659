"""Sessions: lines that lead a store, each with its answer."""

from rulerkeep.averages import average
from rulerkeep.errors import BadLine, BadText
from rulerkeep.store import Store
from rulerkeep.texts import NO_NUMBER, read_number, read_rule, read_wish, show_number, show_rule
from rulerkeep.wishes import cheapest, first_broken
from rulerkeep.worst import worst

# The functions down to _average answer one line each: they get the store, and what stands behind the line's first word.


def _advance(store, ticks):
    store.advance(ticks)
    return "ok"


def _lose(store, point):
    store.lose(point)
    return "ok"


def _restore(store, age):
    return _number_or_none(store.restore(age))


def _distance(store, age):
    return _number_or_none(store.distance(age))


def _worst(store, age):
    return _number_or_none(worst(store.rule, age))


def _change(store, rule):
    store.change(rule)
    return "ok"


def _wish(store, wish):
    broken = first_broken(store.rule, wish)
    return "met" if broken is None else "broken " + show_number(broken[0])


def _cheapest(store, wish):
    rule = cheapest(wish)
    store.change(rule)
    return show_rule(rule)


def _points(store):
    points = store.points()
    return " ".join([show_number(point) for point in points]) if points else "-"


def _count(store):
    return show_number(store.size())


def _tick(store):
    return show_number(store.tick)


def _rule(store):
    return show_rule(store.rule)


def _average(store):
    found = average(store.rule)
    return "none" if found is None else show_number(found[0]) + "/" + show_number(found[1])


def _number_or_none(number):
    return "none" if number is None else show_number(number)


def _told(word, text, line):
    """What a line tells behind its first word: a rule, a wish or a number."""
    try:
        if word == "change":
            return read_rule(text)
        if word in ("wish", "cheapest"):
            return read_wish(text)
    except BadText:
        raise BadLine(line) from None
    number = read_number(text)
    if number == NO_NUMBER:
        raise BadLine(line)
    return number


ALONE = {"points": _points, "count": _count, "tick": _tick, "rule": _rule, "average": _average}
WITH_MORE = {
    "advance": _advance, "lose": _lose, "restore": _restore, "distance": _distance, "worst": _worst,
    "change": _change, "wish": _wish, "cheapest": _cheapest,
}


class Session:
    """A store with the rule that a text writes, at first at the tick 0."""

    def __init__(self, text):
        self._store = Store(read_rule(text))

    def say(self, line):
        """Do what a line says, and return its answer."""
        if not isinstance(line, str):
            raise BadLine(line)
        if line in ALONE:
            answer = ALONE[line]
            return answer(self._store)
        word, _, text = line.partition(" ")
        if word not in WITH_MORE:
            raise BadLine(line)
        told = _told(word, text, line)
        act = WITH_MORE[word]
        return act(self._store, told)
