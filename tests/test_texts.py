import itertools
import random
import re
import unittest

from orderpairs.changes import Add, AddSlot, If, Lower, Move, Put, Raise
from orderpairs.errors import BadPolicy, BadText, BadWorld
from orderpairs.texts import policy_text, read_policy, read_world, world_text
from orderpairs.worlds import World
from tests.helping import sample_policy, sample_world, samples, strangers

HEAD = "slots 2\nstore 0 7\nstore 1 0\n"
PUT = "change reset put 0 7\n"
ADD = "change count add 1 1\n"
# Each plain change, as written.
PLAIN = [(Put(0, 7), "put 0 7"), (Move(0, 1), "move 0 1"), (Move(1, 0), "move 1 0"), (Add(0, 7), "add 0 7"),
         (AddSlot(0, 1), "addslot 0 1"), (AddSlot(1, 1), "addslot 1 1"), (Raise(0, 7), "raise 0 7"),
         (Lower(1, 0), "lower 1 0")]
# The lines that can stand behind a store, if no change stands before them.
ACCEPTED = re.compile("store( [0-9])+|change [a-z]{1,8} (if [0-2] [0-7] )?((put|add|raise|lower) [0-2] [0-7]"
                      "|addslot [0-2] [0-2]|move (0 [12]|1 [02]|2 [01]))")


def mixed_line(source):
    """A line like those of a world, with a word or none replaced, removed or repeated."""
    lines = ["store 0 7", "store 1"] + [f"change reset {written}" for change, written in every_change()]
    words = source.choice(lines).split()
    place = source.randrange(len(words))
    others = ["0", "1", "2", "3", "7", "8", "9", "put", "move", "add", "addslot", "raise", "lower", "if", "count",
              "", "12"]
    choices = [words, words[:place] + words[place + 1:], words[:place] + words[place:place + 1] * 2 + words[place + 1:]]
    choices += [words[:place] + [source.choice(others)] + words[place + 1:]] * 4
    return " ".join(source.choice(choices))


def every_change():
    return PLAIN + [(If(1, 3, change), "if 1 3 " + words) for change, words in PLAIN]


def four():
    return World(1, [(0,)], {"d": Put(0, 0), "a": Put(0, 1), "c": Put(0, 2), "b": Put(0, 3)})


class TextCase(unittest.TestCase):
    def assert_world_row(self, text, row):
        with self.assertRaises(BadText, msg=repr(text)) as caught:
            read_world(text)
        self.assertEqual((caught.exception.row, type(caught.exception.row)), (row, int), repr(text))

    def assert_policy_row(self, text, row):
        with self.assertRaises(BadText, msg=repr(text)) as caught:
            read_policy(four(), text)
        self.assertEqual((caught.exception.row, type(caught.exception.row)), (row, int), repr(text))


class Writing(TextCase):
    def test_a_world(self):
        world = World(2, [(0, 7), (1, 0)], {"reset": Put(0, 7), "count": Add(1, 1)})
        self.assertEqual(world_text(world), HEAD + PUT + ADD)
        self.assertEqual(world_text(world=world), HEAD + PUT + ADD)

    def test_every_change_is_written_and_read(self):
        for change, words in every_change():
            world = World(2, [(0, 7), (1, 0)], {"reset": change, "count": Add(1, 1)})
            text = HEAD + f"change reset {words}\n" + ADD
            self.assertEqual(world_text(world), text)
            self.assertEqual(read_world(text), world)
            self.assertEqual(read_world(text).change("reset"), change)

    def test_stores_of_every_width(self):
        for start, words in [((7,), "slots 1\nstore 7\n"), ((7, 0), "slots 2\nstore 7 0\n"),
                             ((7, 0, 3), "slots 3\nstore 7 0 3\n")]:
            world = World(len(start), [start], {"reset": Put(0, 7), "count": Add(0, 1)})
            self.assertEqual(world_text(world), words + PUT + "change count add 0 1\n")
            self.assertEqual(read_world(world_text(world)), world)

    def test_a_policy_in_the_order_of_its_entries_as_pairs_of_indices(self):
        policy = {("b", "c"): True, ("a", "d"): True, ("d", "c"): True, ("b", "d"): True}
        text = "first d c\nfirst a d\nfirst b d\nfirst b c\n"
        self.assertEqual(policy_text(four(), policy), text)
        self.assertEqual(list(read_policy(four(), text).items()),
                         [(("d", "c"), True), (("a", "d"), True), (("b", "d"), True), (("b", "c"), True)])
        self.assertEqual(policy_text(policy=policy, world=four()), text)

    def test_the_empty_policy(self):
        self.assertEqual(policy_text(four(), {}), "")
        self.assertEqual(read_policy(four(), ""), {})
        self.assertEqual(read_policy(text="", world=four()), {})

    def test_sample_worlds_and_policies(self):
        for world, policy in samples(150):
            text = world_text(world)
            again = read_world(text)
            self.assertEqual(again, world)
            self.assertEqual(world_text(again), text)
            before = list(policy.items())
            self.assertEqual(read_policy(world, policy_text(world, policy)), policy)
            self.assertEqual(list(policy.items()), before)

    def test_the_example_of_the_interface(self):
        text = 'slots 1\nstore 2\nchange reset put 0 0\nchange count if 0 0 add 0 1\n'
        found = [world_text(read_world(text)) == text, read_world(text).end((2,), ('reset', 'count'))]
        self.assertEqual(found, [True, (1,)])

    def test_the_second_example_of_the_interface(self):
        self.assert_world_row('slots 1\nstore 2\nchange reset put 0 8\n', 2)

    def test_the_policies_that_are_read_are_new(self):
        text = "first d c\n"
        read_policy(four(), text).clear()
        self.assertEqual(read_policy(four(), text), {("d", "c"): True})


class WrongArguments(TextCase):
    def test_wrong_worlds(self):
        for world in strangers() + [World, (1, [(2,)], {})]:
            for call in [lambda: world_text(world), lambda: policy_text(world, {}), lambda: policy_text(world, None),
                         lambda: read_policy(world, ""), lambda: read_policy(world, None),
                         lambda: read_policy(world, "x\n")]:
                with self.assertRaises(BadWorld) as caught:
                    call()
                self.assertIsNone(caught.exception.part)

    def test_wrong_policies(self):
        for policy in strangers({}) + [{("d", "a"): 1}, {("d", "x"): True}, {("d", "d"): True},
                                       {("d", "a"): True, ("a", "d"): True}, [("d", "a")]]:
            self.assertRaises(BadPolicy, policy_text, four(), policy)

    def test_what_is_not_a_string(self):
        for text in [value for value in strangers() if not isinstance(value, str)] + [b"slots 1\n", ["slots 1\n"]]:
            self.assert_world_row(text, 0)
            self.assert_policy_row(text, 0)


class WorldLines(TextCase):
    def test_slots_first(self):
        for line in ["", "slots", "slots ", "slots 12", "slots 1 1", "slot 1", "Slots 1", " slots 1", "slots  1",
                     "slots 1 ", "slots x", "slots -1", "slots +1", "slots 1\r", "slots\t1", "slots \u0661",
                     "slots \u00b2",
                     "slots 1.0", "store 0 7", "change reset put 0 7", "first reset count", "2", "\ufeffslots 2"]:
            self.assert_world_row(line + "\n" + HEAD + PUT + ADD, 0)
            self.assert_world_row(line + "\nx\n", 0)

    def test_the_ten_digits_only(self):
        for code in range(256):
            if chr(code) not in "0123456789\n":
                self.assert_world_row(f"slots {chr(code)}\nx\n", 0)
                self.assert_world_row(HEAD + f"store {chr(code)}\nx\n", 3)
        for digit in "0123456789":
            self.assert_world_row(f"slots {digit}\nx\n", 1)
            self.assert_world_row(HEAD + f"store {digit}\nx\n", 4)

    def test_slots_only_there(self):
        for text in ["slots 2\nslots 2\n", HEAD + "slots 2\n" + PUT + ADD, HEAD + PUT + "slots 2\n" + ADD,
                     HEAD + PUT + ADD + "slots 2\n"]:
            lines = text.split("\n")
            self.assert_world_row(text, lines.index("slots 2", 1))

    def test_no_store_behind_a_change(self):
        self.assert_world_row(HEAD + PUT + "store 3 3\n" + ADD, 4)
        self.assert_world_row(HEAD + PUT + ADD + "store 3 3\n", 5)
        self.assert_world_row("slots 2\n" + PUT + "store 3 3\n" + ADD, 2)
        self.assert_world_row("slots 2\n" + PUT + "x\n" + "store 3 3\n" + ADD, 2)

    def test_wrong_store_lines(self):
        for line in ["store", "store ", "store 12", "store 1 12", "store 1  2", "store 1 2 ", " store 1 2", "store x",
                     "store 1 x", "store 1,2", "store -1 2", "store 1 2\r", "stores 1 2", "Store 1 2", "store\t1 2",
                     "store 1\t2", "store \u0661 2", "store \u00b2 2", "store (1, 2)", "store 1 2 3 4 x", "", " ",
                     "\t"]:
            self.assert_world_row(HEAD + line + "\n" + PUT + ADD, 3)
            self.assert_world_row("slots 2\n" + line + "\nx\n", 1)

    def test_wrong_names(self):
        for name in ["", "Reset", "resetreset", "abcdefghi", "re5et", "re-set", "re_set", "r\u00e9set", "0", "reset\r"]:
            for text in [HEAD + f"change {name} put 0 7\n" + ADD, HEAD + f"change {name} if 1 3 put 0 7\n" + ADD]:
                self.assert_world_row(text, 3)

    def test_the_edges_of_names(self):
        for name in ["a", "z", "abcdefgh", "put", "if", "change", "slots", "store"]:
            self.assertEqual(read_world(HEAD + f"change {name} put 0 7\n" + ADD).names, [name, "count"])

    def test_wrong_change_lines(self):
        wrong = ["", "put", "put 0", "put 0 7 7", "put 0 7 ", "put  0 7", " put 0 7", "put 0  7", "put x 7", "put 0 x",
                 "put 00 7", "put 0 07", "put 0 10", "put -1 7", "put \u0660 7", "put 0 \u0667", "put 0 7\r",
                 "put\t0 7",
                 "Put 0 7", "set 0 7", "add 0", "change 0 7", "0 7", "7", "if", "if 1", "if 1 3", "if 1 3 put",
                 "if 1 3 put 0", "if 1 3 put 0 7 7", "if 1 3  put 0 7", "if 1 put 0 7", "if put 0 7", "if 1 3 x 0 7",
                 "if x 3 put 0 7", "if 1 x put 0 7", "if 10 3 put 0 7", "if 1 13 put 0 7", "if 1 3 7", "put 0 7 if 1 3",
                 "first reset count", "put reset 7", "if 1 3 if 1 3 put 0 7", "if 1 3 if 1 3"]
        for words in wrong:
            self.assert_world_row(HEAD + ADD + f"change reset {words}\n", 4)
            self.assert_world_row(HEAD + f"change reset {words}\nx\n", 3)
        for line in ["change", "change ", "change reset", "Change reset put 0 7", " change reset put 0 7",
                     "reset put 0 7",
                     "change  reset put 0 7", "change put 0 7", "change reset count put 0 7", "\tchange reset put 0 7"]:
            self.assert_world_row(HEAD + ADD + line + "\n", 4)

    def test_changes_that_cannot_be_made(self):
        wrong = ["put 3 7", "put 9 7", "put 0 8", "put 0 9", "move 0 0", "move 2 2", "move 3 0", "move 0 3", "add 3 0",
                 "add 0 8", "addslot 3 0", "addslot 0 3", "raise 3 0", "raise 0 8", "lower 3 0", "lower 0 8"]
        for words in wrong + ["if 3 0 put 0 0", "if 0 8 put 0 0"] + ["if 1 3 " + words for words in wrong]:
            self.assert_world_row(HEAD + ADD + f"change reset {words}\nx\n", 4)

    def test_an_if_within_ifs_of_any_number(self):
        self.assert_world_row(HEAD + ADD + "change reset " + "if 1 3 " * 5000 + "put 0 7\n", 4)

    def test_changes_are_accepted_whatever_the_number_of_slots(self):
        for words in ["put 2 0", "move 2 1", "move 0 1", "addslot 0 2", "if 2 0 put 0 0", "if 0 0 lower 2 0"]:
            text = f"slots 1\nstore 0\nchange reset {words}\nchange count add 0 1\n"
            self.assert_world_row(text, 0)
            self.assert_world_row(text + "x\n", 4)
            self.assert_world_row(text + "x", 4)

    def test_the_first_line_that_is_not_accepted_counts(self):
        self.assert_world_row("slots 1\nstore 2\nx\ny\n", 2)
        self.assert_world_row(HEAD + "store 3 3\nx\n" + PUT + "y\n", 4)
        self.assert_world_row("slots 1\nx\nstore 2", 1)

    def test_mixed_lines(self):
        source = random.Random(9)
        accepted = 0
        for _ in range(6000):
            line = mixed_line(source)
            fits = ACCEPTED.fullmatch(line) is not None
            self.assert_world_row(HEAD + line + "\nX\n", 4 if fits else 3)
            accepted += fits
        self.assertTrue(1000 < accepted < 5000, accepted)


class WorldEnds(TextCase):
    def test_no_line(self):
        for text in ["", "x", "slots 1", "slots", " "]:
            self.assert_world_row(text, 0)

    def test_characters_behind_the_last_line_feed(self):
        text = HEAD + PUT + ADD
        for rest in ["x", " ", "\r", "store 1 1", "change more put 0 7", "\t"]:
            self.assert_world_row(text + rest, 5)
        self.assert_world_row(text[:-1], 4)
        self.assert_world_row("slots 1\nslots", 1)
        self.assert_world_row("slots 9\nstore 9\nstore 9\n ", 3)

    def test_an_empty_line_is_a_line(self):
        self.assert_world_row("\n", 0)
        self.assert_world_row(HEAD + PUT + ADD + "\n", 5)
        self.assert_world_row(HEAD + "\n" + PUT + ADD, 3)

    def test_lines_that_form_no_world(self):
        long_store = "store" + " 0" * 40
        wrong = ["slots 0\n" + PUT + ADD, "slots 2\n", "slots 2\nstore 0 7\n", HEAD + PUT, "slots 2\n" + PUT + ADD,
                 "slots 0\nstore 0 7\n" + PUT + ADD, "slots 4\nstore 0 7 0 7\n" + PUT + ADD,
                 "slots 9\nstore 0 7\n" + PUT + ADD, "slots 1\nstore 0 7\n" + PUT + "change count add 0 1\n",
                 "slots 2\nstore 0\n" + PUT + ADD, "slots 2\nstore 0 7 7\n" + PUT + ADD,
                 "slots 2\nstore 0 8\n" + PUT + ADD, "slots 2\nstore 9 0\n" + PUT + ADD,
                 "slots 2\nstore 0 7\nstore 0 7\n" + PUT + ADD, f"slots 2\n{long_store}\n" + PUT + ADD,
                 HEAD + PUT + PUT, HEAD + PUT + "change reset add 0 1\n", HEAD + PUT + ADD + PUT,
                 HEAD + "".join(f"change {name} put 0 7\n" for name in "abcde"),
                 "slots 2\n" + "".join(f"store 0 {value}\n" for value in range(8)) + "store 1 0\n" + PUT + ADD]
        for text in wrong:
            self.assert_world_row(text, 0)

    def test_these_lines_are_accepted_all_the_same(self):
        for text in ["slots 0\n", "slots 9\n", "slots 2\nstore 9\n", "slots 2\nstore 0 0 0 0 0\n", HEAD + PUT + PUT,
                     "slots 2\nstore 0\nstore 0\n", "slots 2\n" + "change a put 2 7\n" * 6]:
            lines = text.count("\n")
            self.assert_world_row(text, 0)
            self.assert_world_row(text + "x\n", lines)
            self.assert_world_row(text + "x", lines)

    def test_the_edges_are_read(self):
        stores = "".join(f"store 0 {value}\n" for value in range(8))
        changes = "".join(f"change {name} put 0 7\n" for name in "abcd")
        world = read_world("slots 2\n" + stores + changes)
        self.assertEqual(world.stores, [(0, value) for value in range(8)])
        self.assertEqual(world.names, ["a", "b", "c", "d"])

    def test_the_order_of_stores_and_names_is_kept(self):
        world = read_world("slots 1\nstore 7\nstore 2\nchange zebra put 0 7\nchange ant add 0 1\n")
        self.assertEqual((world.slots, world.stores, world.names), (1, [(7,), (2,)], ["zebra", "ant"]))


class PolicyLines(TextCase):
    def test_lines_that_are_not_accepted(self):
        for line in ["", "first", "first d", "first d a c", "first  d a", "first d  a", "first d a ", " first d a",
                     "First d a", "second d a", "d a", "first D a", "first d A", "first 0 1", "first d 1",
                     "first d a\r",
                     "first\td a", "first d abcdefghi", "first abcdefghi d", "first d ", "first d,a", "first r\u00e9 a",
                     "slots 1", "store 0", "change d put 0 0"]:
            self.assert_policy_row(line + "\n", 0)
            self.assert_policy_row("first d c\n" + line + "\n", 1)
            self.assert_policy_row("first d c\nfirst c d\n" + line + "\nx\n", 2)

    def test_characters_behind_the_last_line_feed(self):
        self.assert_policy_row("x", 0)
        self.assert_policy_row("first d a", 0)
        self.assert_policy_row("first d c\nfirst a d", 1)
        self.assert_policy_row("first d c\nfirst a d\n ", 2)
        self.assert_policy_row("first d d\nfirst x y\nfirst", 2)

    def test_lines_that_form_no_policy(self):
        for text in ["first d x\n", "first x d\n", "first d d\n", "first d a\nfirst a d\n",
                     "first d a\nfirst a c\nfirst c d\n"]:
            self.assert_policy_row(text, 0)
            self.assert_policy_row(text + "x\n", text.count("\n"))

    def test_lines_that_are_not_in_order(self):
        for text in ["first a d\nfirst d c\n", "first d b\nfirst d a\n", "first d a\nfirst d a\n",
                     "first b c\nfirst a d\n", "first d a\nfirst a c\nfirst d a\n"]:
            self.assert_policy_row(text, 0)

    def test_every_order_of_the_lines(self):
        lines = ["first d c\n", "first a d\n", "first a c\n", "first b a\n"]
        for mixed in itertools.permutations(lines):
            if list(mixed) == lines:
                self.assertEqual(len(read_policy(four(), "".join(mixed))), 4)
            else:
                self.assert_policy_row("".join(mixed), 0)

    def test_the_order_is_that_of_the_world(self):
        source = random.Random(10)
        for _ in range(60):
            world = sample_world(source)
            policy = sample_policy(source, world.names)
            entries = sorted(policy, key=lambda pair: [world.names.index(name) for name in pair])
            self.assertEqual(policy_text(world, policy), "".join(f"first {one} {other}\n" for one, other in entries))
            self.assertEqual(list(read_policy(world, policy_text(world, policy))), entries)


if __name__ == "__main__":
    unittest.main()
