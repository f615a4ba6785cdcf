"""Fronts: stands and views before other things, and how a name that is asked of a front is led on."""

from innerlook.errors import Fault, NoRows, NoRules, NoWorth
from innerlook.store import Record, check_store
from innerlook.worths import are_names, check_name, is_name, is_row, is_worth, put_otherwise

MOST_RULES = 8
MOST_RENAMED = 30
# The words of rules, with how many things each rule has, the word too.
RULES = {"hide": 2, "bar": 2, "as": 3, "give": 3, "count": 2}


class Front(Record):
    """The record of a front before another thing: alone it leads on every name and lets through every word."""

    def __init__(self, back):
        self.back = back

    def behind(self):
        """The thing right behind."""
        return self.back

    def leads(self, name):
        """Where a name that is asked here is led: ("on", name) or ("given", worth), ("barred", name), ("nowhere",)."""
        return "on", name

    def front_shown(self, names):
        """The names that are shown here, a list, where these are shown by the thing behind."""
        return list(names)

    def lets_word(self, word):
        """Whether asks by this word are let through."""
        return True

    def is_taken(self):
        """Whether it is taken back."""
        return False

    def notes(self, name):
        """Count a name that a program asks here."""

    def told(self):
        return (self.back,)

    def twin(self):
        return Front(self.back)

    def moved(self, numbers):
        self.back = put_otherwise(self.back, numbers)


class Stand(Front):
    """A stand: its rules, and how often each name that they count was asked."""

    def __init__(self, back, rules):
        Front.__init__(self, back)
        self.own_rules = rules
        self.counts = {rule[1]: 0 for rule in rules if rule[0] == "count"}

    def sort_word(self):
        return "stand"

    def told(self):
        return self.back, self.own_rules, tuple(self.counts.items())

    def twin(self):
        stand_in = Stand(self.back, self.own_rules)
        stand_in.counts = dict(self.counts)
        return stand_in

    def leads(self, name):
        for rule in self.own_rules:
            if rule[0] != "count" and rule[1] == name:
                return _led_by(rule)
        return ("nowhere",) if name in self._led_to() else ("on", name)

    def front_shown(self, names):
        words = {rule[1]: rule[0] for rule in self.own_rules if rule[0] != "count"}
        found = []
        for name in names:
            word = words.get(name)
            if word == "give" or (word is None and name not in self._led_to()):
                found.append(name)
            found.extend([rule[1] for rule in self.own_rules if rule[0] == "as" and rule[2] == name])
        return found + [name for name in words if words[name] == "give" and name not in found]

    def notes(self, name):
        if name in self.counts:
            self.counts[name] += 1

    def _led_to(self):
        """The names to which some `as` leads."""
        return [rule[2] for rule in self.own_rules if rule[0] == "as"]


def _led_by(rule):
    """Where a rule, of another word than `count`, leads its name."""
    word = rule[0]
    if word == "hide":
        return ("nowhere",)
    if word == "bar":
        return "barred", rule[1]
    return "on" if word == "as" else "given", rule[2]


def are_rules(thing):
    """Whether a thing is rules of a stand."""
    if not isinstance(thing, tuple) or len(thing) > MOST_RULES or not all([_is_rule(rule) for rule in thing]):
        return False
    # Here all names are looked at, too: those of each list are names, none of them twice.
    counted_names = [rule[1] for rule in thing if rule[0] == "count"]
    led_names = [rule[1] for rule in thing if rule[0] != "count"]
    return are_names(counted_names, MOST_RULES) and are_names(led_names, MOST_RULES)


def _is_rule(thing):
    """Whether a thing is a rule, if it has a name."""
    if not isinstance(thing, tuple) or not thing:
        return False
    word = thing[0]
    if not isinstance(word, str) or word not in RULES or len(thing) != RULES[word]:
        return False
    if word == "as":
        return is_name(thing[2])
    return word != "give" or is_worth(thing[2])


def stand(store, thing, rules=()):
    """Make a stand for a thing."""
    check_store(store)
    store.record(thing)
    if not are_rules(rules) or not all([store.holds(rule[2]) for rule in rules if rule[0] == "give"]):
        raise NoRules(rules)
    return store.added(Stand(thing, rules))


def fronts_ahead(store, thing):
    """All fronts from a thing on, and its base behind them, a list of things."""
    check_store(store)
    things = [thing]
    record = store.record(thing)
    while isinstance(record, Front):
        things.append(record.behind())
        record = store.record(record.behind())
    return things


def chain(store, thing):
    """The records from a thing to its base, a list."""
    return [store.record(one) for one in fronts_ahead(store, thing)]


def is_front(store, thing):
    """Whether a thing is a front."""
    check_store(store)
    return isinstance(store.record(thing), Front)


def behind(store, front):
    """The thing right behind a front."""
    if not is_front(store, front):
        raise Fault("wrong", front)
    return store.record(front).behind()


def base_of(store, thing):
    """The first thing from this one on that is no front."""
    return fronts_ahead(store, thing)[-1]


def check_there(store, thing):
    """Come to a fault with a front that is gone."""
    for record in chain(store, thing)[:-1]:
        if record.is_taken():
            raise Fault("gone", thing)


def road(store, thing, name, *, counts=False):
    """Where a name that is asked of a thing is led at last: ("base", base, name), or as it is told of a front."""
    ahead = fronts_ahead(store, thing)
    check_name(name)
    check_there(store, thing)
    for front in ahead[:-1]:
        record = store.record(front)
        if counts:
            record.notes(name)
        found = record.leads(name)
        if found[0] != "on":
            return found
        name = found[1]
    return "base", ahead[-1], name


def led(store, thing, name):
    """What a name that is asked of a thing comes to, a tuple."""
    found = road(store, thing, name)
    if found[0] != "base":
        return found
    met = store.met(found[1], found[2])
    return ("nowhere",) if met is None else ("met", found[1], found[2], met[0], met[1])


def shown(store, thing):
    """All names that are met or given where they are asked of a thing, a list."""
    check_there(store, thing)
    return shown_through(store, thing, store.names(base_of(store, thing)))


def shown_through(store, thing, names):
    """The names that are shown of a thing where these are shown of its base, a list."""
    for record in reversed(chain(store, thing)[:-1]):
        names = record.front_shown(names)
    return names


def rules_of(store, stand):
    """The rules of a stand."""
    return _record_of_stand(store, stand).own_rules


def counted(store, stand):
    """How often each name that a stand counts was asked, a dict in the order of its rules."""
    return dict(_record_of_stand(store, stand).counts)


def _record_of_stand(store, thing):
    """The record of a stand."""
    check_store(store)
    record = store.record(thing)
    if not isinstance(record, Stand):
        raise Fault("wrong", thing)
    return record


def renamed(rules, names):
    """Rules with their names put otherwise, by a dict from names to names."""
    if not are_rules(rules):
        raise NoRules(rules)
    if not _are_new_names(names):
        raise NoRows(names)
    made = tuple([_rule_renamed(rule, names) for rule in rules])
    if not are_rules(made):
        raise NoRules(made)
    return made


def _are_new_names(thing):
    """Whether a thing is a dict of at most thirty names to unlike names."""
    if not isinstance(thing, dict) or not all([is_name(name) for name in thing]):
        return False
    return are_names(list(thing.values()), MOST_RENAMED)


def _rule_renamed(rule, names):
    """A rule with its names put otherwise."""
    word, name = rule[0], names.get(rule[1], rule[1])
    if word == "as":
        return word, name, names.get(rule[2], rule[2])
    return (word, name, rule[2]) if word == "give" else (word, name)


def bare_worth(store, worth):
    """A worth with what is behind in the place of each stand without rules."""
    check_store(store)
    if not store.holds(worth):
        raise NoWorth(worth)
    return _bared(store, worth)


def _bared(store, worth):
    """Likewise, of what was looked at."""
    if is_row(worth):
        return "row", tuple([_bared(store, part) for part in worth[1]])
    while isinstance(worth, tuple) and _is_bare_stand(store.record(worth)):
        worth = store.record(worth).behind()
    return worth


def _is_bare_stand(record):
    """Whether a record is that of a stand without rules."""
    return isinstance(record, Stand) and record.own_rules == ()
