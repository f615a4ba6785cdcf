"""The interface of the document, as far as it has landed: its names, where they are defined, and their arguments."""

import importlib
import inspect
import unittest

# Functions, and methods behind the name of their class, with their arguments.
INTERFACE = {
    "worths": """is_whole(thing, low, high) is_name(thing) is_text(thing) is_worth(thing) says_yes(worth)
        worth_text(worth) read_worth(text) added(one, other) taken(one, other) lesser(one, other) parts_of(row)
        part_of(row, at) are_rows(thing) things_in(worth) moved(worth, numbers)""",
    "trees": """is_expression(thing) is_block(thing) is_deed(thing) places_in(deed) statement_at(deed, place)""",
    "deedtext": """expression_text(thing) deed_text(deed) read_deed(text)""",
    "params": """is_params(thing) matched(params, args, named) params_text(params) read_params(text) names_of(params)
        range_of(params) takes(params, many, names) parting_call(one, other) shows_parting(one, other, thing)""",
    "store": """Store() Store.plain(self, kind, *, rows=None)
        Store.kind(self, title, *, above=None, wants=(), shares=(), rows=None) Store.deed(self, deed)
        Store.sort_of(self, thing) Store.kind_of(self, thing) Store.rows(self, thing) Store.title_of(self, kind)
        Store.above(self, kind) Store.wants(self, kind) Store.shares(self, kind) Store.deed_of(self, thing)
        Store.__len__(self) Store.twin(self) Store.__eq__(self, other) Store.met(self, thing, name)
        Store.names(self, thing) Store.is_beneath(self, kind, other) Store.put(self, thing, name, worth)
        Store.drop(self, thing, name) Store.turn(self, thing, kind) Store.lay(self, other) Store.record(self, thing)
        Store.added(self, record) Record.sort_word(self) Record.told(self) Record.twin(self)
        Record.moved(self, numbers)""",
    "plain": """run_plain(store, thing, name, *, args=(), named=None) rows_plain(store, thing, name, *, args=(), named=None)
        run_deed(store, thing, deed, *, args=(), named=None)""",
    "fronts": """are_rules(thing) stand(store, thing, rules=()) is_front(store, thing) behind(store, front)
        base_of(store, thing) led(store, thing, name) shown(store, thing) rules_of(store, stand) counted(store, stand)
        renamed(rules, names) Front(back) Front.behind(self) Front.leads(self, name) Front.front_shown(self, names)
        Front.lets_word(self, word) Front.is_taken(self) Front.notes(self, name) chain(store, thing)
        road(store, thing, name, *, counts=False) bare_worth(store, worth)""",
    "views": """view(store, thing, *, names=None, asks=None) take_back(store, view) is_gone(store, thing)
        barring(store, thing, word) view_of(store, view) fronts_of(store, thing) is_narrower(store, one, other)""",
    "copies": """shown_rows(store, thing) copied(store, thing) copied_deep(store, thing)""",
    "alike": """alike(store, one, other) shows_alike(store, one, other, thing)""",
    "asks": """ask(store, thing, word, things=()) deed_met(store, thing, name) asked_within(store, thing, word, things)
        met_within(store, thing, name)""",
    "wraps": """is_way(thing) put_on(store, thing, name, way) take_off(store, thing, name, wrap)
        wraps_on(store, thing, name) deed_within(store, thing, name) way_of(store, wrap) inner_of(store, wrap)
        remembered(store, wrap) inmost(store, one) Wrap.way(self) Wrap.inner(self) Wrap.takes_one(self)
        Wrap.answer_to(self, me, args, named) Wrap.keep_answer(self, me, args, named, answer)""",
    "machine": """Machine(store, thing, name, *, args=(), named=None) Machine.step(self) Machine.run(self)
        Machine.call_off(self) Machine.is_done(self) Machine.worth(self) Machine.counted(self) Machine.frames(self)
        Machine.title_of(self, frame) Machine.place(self, frame) Machine.names(self, frame) Machine.me(self, frame)
        Machine.set_worth(self, frame, name, worth) Machine.frames_told(self)
        called(store, thing, name, *, args=(), named=None)""",
    "frames": """Frame.me(self) Frame.caller(self, store) Frame.deed(self) Frame.worths(self)
        Frame.put_worth(self, name, worth) Frame.is_over(self)""",
    "making": """deed_made(store, thing, name, text) kind_made(store, above, text) kind_text(store, kind)
        exchanged(store, one, other) told_anew(store, kind, *, wants=None, shares=None)
        first_unlike(store, thing, one, other, calls)""",
    "doings": """is_doing(thing) done(store, doing) done_all(store, doings)""",
    "pairs": """parted(store, one, other, name, *, args=(), named=None)""",
    "storetext": """store_text(store) read_store(text)""",
    "desk": """Desk() Desk.say(self, line) Desk.store(self) Desk.is_running(self)""",
}


def rows():
    """Each module, name, and the arguments as they are written."""
    for module, signatures in INTERFACE.items():
        text = " ".join(signatures.split()).replace("=()", "=<>")
        for part in text.split(")")[:-1]:
            name, args = part.strip().split("(")
            yield module, name, "(" + args.replace("<>", "()") + ")"


class Interface(unittest.TestCase):

    def test_all_names_with_their_arguments(self):
        for module, name, args in rows():
            home = importlib.import_module("innerlook." + module)
            found = home
            for word in name.split("."):
                self.assertIn(word, vars(found), (module, name))
                found = vars(found)[word]
            self.assertEqual(found.__module__, "innerlook." + module, name)
            self.assertEqual(str(inspect.signature(found)), args, (module, name))


if __name__ == "__main__":
    unittest.main()
