"""Calls told another way than the Machine does them: by functions that call themselves, straight from 52, 53, 91 to 103.

It works on a Store of its own, but for what stands count and wraps remember: that it keeps beside the Store.
"""

from innerlook.alike import alike
from innerlook.copies import copied, copied_deep
from innerlook.errors import Fault
from innerlook.fronts import bare_worth, base_of, behind, counted, rules_of, stand
from innerlook.params import matched
from innerlook.plain import plainly_reckoned
from innerlook.store import Record
from innerlook.trees import expressions_in
from innerlook.views import barring, is_gone, view, view_of
from innerlook.worths import is_name, says_yes
from innerlook.wraps import inner_of, remembered, way_of

FRONTS = ("stand", "view")
WITH_NAME = ("has", "drop", "owner", "get", "set", "made")


class Frame(Record):
    """A deed that runs."""

    def __init__(self, tree, me, names, caller, onward):
        self.tree, self.me, self.names, self.caller, self.onward = tree, me, names, caller, onward
        self.over, self.thing = False, None

    def sort_word(self):
        return "frame"


class Given(Exception):
    """A deed gives a worth."""


class Telling:

    def __init__(self, store):
        self.store = store
        self.running, self.counted = [], 0
        self.counts, self.left, self.kept = {}, {}, {}
        for thing in self.of_sort("stand"):
            self.counts[thing] = counted(store, thing)
        for thing in self.of_sort("wrap"):
            kind = way_of(store, thing)[0]
            if kind in ("often", "kept"):
                (self.left if kind == "often" else self.kept)[thing] = remembered(store, thing)

    def of_sort(self, sort):
        things = [("thing", number) for number in range(len(self.store))]
        return [thing for thing in things if self.store.sort_of(thing) == sort]

    def told(self, frame):
        """The thing that a frame is."""
        if frame.thing is None:
            frame.thing = self.store.added(frame)
        return frame.thing

    # Names through fronts.

    def led(self, thing, name):
        """Where a name is led, each front counting it as it is asked there."""
        while self.store.sort_of(thing) in FRONTS:
            if self.store.sort_of(thing) == "view":
                names = view_of(self.store, thing)[1]
                found = ("barred", name) if names is not None and name not in names else ("on", name)
            else:
                found = self.led_by_rules(thing, name)
            if found[0] == "barred":
                raise Fault("barred", name)
            if found[0] != "on":
                return found
            thing, name = behind(self.store, thing), found[1]
        return "base", thing, name

    def led_by_rules(self, thing, name):
        rules = rules_of(self.store, thing)
        counts = self.counts.setdefault(thing, {rule[1]: 0 for rule in rules if rule[0] == "count"})
        if name in counts:
            counts[name] += 1
        for word, own, *more in rules:
            if own == name and word != "count":
                return {"hide": ("nowhere",), "bar": ("barred",), "as": ("on", *more), "give": ("given", *more)}[word]
        return ("nowhere",) if name in [rule[2] for rule in rules if rule[0] == "as"] else ("on", name)

    def met(self, thing, name):
        """(whose, worth), whose the asked thing where the name is given or the base has it, or None."""
        found = self.led(thing, name)
        if found[0] != "base":
            return (thing, found[1]) if found[0] == "given" else None
        base, own = found[1:]
        if self.store.sort_of(base) == "frame":
            names = self.store.record(base).names
            return (thing, names[own]) if own in names else None
        met = self.store.met(base, own)
        return None if met is None else (thing if met[0] == base else met[0], met[1])

    def shown(self, thing):
        sort = self.store.sort_of(thing)
        if sort == "frame":
            return sorted(self.store.record(thing).names)
        if sort not in FRONTS:
            return self.store.names(thing)
        names = self.shown(behind(self.store, thing))
        if sort == "view":
            lets = view_of(self.store, thing)[1]
            return [name for name in names if lets is None or name in lets]
        rules = {rule[1]: rule for rule in rules_of(self.store, thing) if rule[0] != "count"}
        leads = [(rule[2], rule[1]) for rule in rules.values() if rule[0] == "as"]
        found = []
        for name in names:
            if rules[name][0] == "give" if name in rules else name not in [other for other, _ in leads]:
                found.append(name)
            found += [own for other, own in leads if other == name]
        return found + [name for name, rule in rules.items() if rule[0] == "give" and name not in found]

    # Asks.

    def go_through(self, thing, word):
        base = base_of(self.store, thing)
        if is_gone(self.store, thing) or self.store.sort_of(base) == "frame" and self.store.record(base).over:
            raise Fault("gone", thing)
        if barring(self.store, thing, word):
            raise Fault("barred", word)

    def ask(self, thing, word, things):
        if not self.store.has_thing(thing):
            raise Fault("wrong", thing)
        if things and not self.fits(word, things[0]):
            raise Fault("wrong", things[0])
        self.go_through(thing, word)
        if word in ("turn", "under"):
            self.go_through(things[0], word)
        base = base_of(self.store, thing)
        if word in ("has", "get", "owner", "set", "drop"):
            return self.ask_by_name(thing, base, word, things)
        return self.ask_of_all(thing, base, word, things)

    def fits(self, word, second):
        if word in WITH_NAME:
            return is_name(second)
        if word in ("turn", "under"):
            return self.store.has_thing(second) and self.store.sort_of(base_of(self.store, second)) == "kind"
        if word == "narrow":
            return isinstance(second, tuple) and second[0] == "row" and len(second[1]) <= 20 and all(
                is_name(part) for part in second[1]) and len(set(second[1])) == len(second[1])
        return True

    def ask_by_name(self, thing, base, word, things):
        name = things[0]
        if word in ("has", "get", "owner"):
            met = self.met(thing, name)
            if met is None and word != "has":
                raise Fault("lacks", name)
            return int(met is not None) if word == "has" else met[1 if word == "get" else 0]
        found = self.led(thing, name)
        is_frame = self.store.sort_of(base) == "frame"
        if found[0] == "given" or (found[0] == "base" and is_frame and word == "drop"):
            raise Fault("barred", name)
        if found[0] == "nowhere" or (is_frame and found[2] not in self.store.record(base).names):
            raise Fault("lacks", name)
        if is_frame:
            self.store.record(base).names[found[2]] = things[1]
        elif word == "set":
            self.store.put(base, found[2], things[1])
        else:
            self.store.drop(base, found[2])
        return None

    def ask_of_all(self, thing, base, word, things):
        store, sort = self.store, self.store.sort_of(base)
        sorts = {"title": ("kind", "deed", "wrap", "frame"), "above": ("kind", "frame"), "made": ("kind",),
                 "params": ("deed", "wrap", "frame"), "new": ("kind",)}
        if sort not in sorts.get(word, (sort,)) or word in ("made", "new") and base[1] in (1, 2, 3):
            raise Fault("wrong", thing)
        if word == "names":
            names = self.shown(thing)
            if len(names) > 30:
                raise Fault("many", len(names))
            return "row", tuple(names)
        kind = base if sort == "kind" else store.kind_of(base)
        ways = {
            "kind": lambda: store.kind_of(base), "turn": lambda: store.turn(base, base_of(store, things[0])),
            "under": lambda: int(store.is_beneath(kind, base_of(store, things[0]))),
            "title": lambda: store.title_of(base) if sort == "kind" else self.tree(base)[0],
            "above": lambda: store.above(base) if sort == "kind" else self.caller(base),
            "params": lambda: ("row", tuple(param[1] for param in self.tree(base)[1])),
            "copy": lambda: copied(store, thing), "deep": lambda: copied_deep(store, thing)[0],
            "sort": lambda: store.sort_of(thing), "within": lambda: self.within(thing),
            "alike": lambda: int(alike(store, thing, things[0]) is not None),
            "made": lambda: store.kind(things[0], above=base), "new": lambda: store.plain(base, rows=things[0]),
            "stand": lambda: stand(store, thing), "narrow": lambda: view(store, thing, names=things[0][1])}
        return ways[word]()

    def caller(self, base):
        caller = self.store.record(base).caller
        return None if caller is None else self.told(caller)

    def tree(self, base):
        while self.store.sort_of(base) == "wrap":
            base = inner_of(self.store, base)
        return self.store.record(base).tree

    def within(self, thing):
        sort = self.store.sort_of(thing)
        if sort == "stand":
            return behind(self.store, thing)
        if sort == "wrap":
            return inner_of(self.store, thing)
        if sort == "frame":
            return self.store.record(thing).me
        raise Fault("wrong", thing)

    # Calls.

    def call(self, thing, name, args, named):
        if not self.store.has_thing(thing):
            raise Fault("wrong", thing)
        if not is_name(name):
            raise Fault("wrong", name)
        self.go_through(thing, "call")
        met = self.met(thing, name)
        if met is None:
            raise Fault("lacks", name)
        if not self.store.has_thing(met[1]):
            raise Fault("wrong", met[1])
        self.go_through(met[1], "call")
        base = base_of(self.store, met[1])
        if self.store.sort_of(base) not in ("deed", "wrap"):
            raise Fault("wrong", met[1])
        return self.do(base, thing, args, named)

    def do(self, one, me, args, named):
        """The answer of a deed or wrap."""
        if self.store.sort_of(one) == "deed":
            return self.run(one, me, args, named, None)
        way, inner = way_of(self.store, one), inner_of(self.store, one)
        if way[0] == "around":
            return self.run(way[1], me, args, named, inner)
        if way[0] == "kept":
            return self.do_kept(one, inner, me, args, named)
        if way[0] == "often":
            if self.left[one] == 0:
                return None
            self.left[one] -= 1
        if way[0] == "before":
            self.do(way[1], me, args, named)
        answer = self.do(inner, me, args, named)
        if way[0] == "behind":
            self.do(way[1], me, (answer,), {})
        return answer

    def do_kept(self, one, inner, me, args, named):
        key = (bare_worth(self.store, me), tuple(bare_worth(self.store, worth) for worth in args),
               {name: bare_worth(self.store, worth) for name, worth in named.items()})
        for told in self.kept[one]:
            if told[:3] == key:
                return told[3]
        answer = self.do(inner, me, args, named)
        self.kept[one].append(key + (answer,))
        return answer

    def run(self, deed, me, args, named, onward):
        if len(self.running) == 12:
            raise Fault("deep", 12)
        tree = self.store.deed_of(deed)
        caller = self.running[-1] if self.running else None
        frame = Frame(tree, me, matched(tree[1], list(args), named), caller, onward)
        self.running.append(frame)
        answer = None
        try:
            self.do_block(tree[2])
        except Given as given:
            answer = given.args[0]
        frame.over = True
        self.running.pop()
        return answer

    def do_block(self, block):
        for statement in block:
            while self.do_statement(statement):
                pass

    def do_statement(self, statement):
        """Whether a statement, that was done, is to be done once more."""
        if self.counted == 2000:
            raise Fault("long", 2000)
        self.counted += 1
        worths, word = [self.worth(part) for part in expressions_in(statement)], statement[0]
        if word == "give":
            raise Given(worths[0])
        if word == "let":
            self.running[-1].names[statement[1]] = worths[0]
        if word == "set":
            self.ask(worths[0], "set", worths[1:])
        if word == "if":
            self.do_block(statement[2 if says_yes(worths[0]) else 3])
        if word == "while" and says_yes(worths[0]):
            self.do_block(statement[2])
            return True
        return False

    def worth(self, tree):
        frame, word = self.running[-1], tree[0]
        if word == "lit":
            return tree[1]
        if word == "name":
            if tree[1] not in frame.names:
                raise Fault("lacks", tree[1])
            return frame.names[tree[1]]
        if word == "me":
            return frame.me
        if word == "here":
            return self.told(frame)
        if word == "onward" and frame.onward is None:
            raise Fault("wrong", "onward")
        worths = [self.worth(part) for part in expressions_in(tree)]
        if word in ("onward", "call", "new"):
            named = {name: worth for (name, _), worth in zip(tree[-1], worths[len(worths) - len(tree[-1]):])}
            places = tuple(worths[:len(worths) - len(tree[-1])])
            if word == "onward":
                return self.do(frame.onward, frame.me, places, named)
            return self.ask(places[0], "new", [named]) if word == "new" else self.call(*places[:2], places[2:], named)
        if word in ("get", "look"):
            return self.ask(worths[0], "get" if word == "get" else tree[1], worths[1:])
        return plainly_reckoned(word, worths)
