"""Point 29: the desk (with points 1, 2 and 4 as far as they speak of it)."""

import unittest
from random import Random

from normalwords.besides import beside
from normalwords.desk import Desk
from normalwords.errors import InvalidCommand, NothingToUndo, Undefined
from normalwords.frees import free_group
from normalwords.groups import Places
from normalwords.rounds import mirrors, round_group, whole_numbers
from normalwords.tables import table_group
from made import TABLES
from reference import ODD_VALUES
from samples import GROUPS, group, places_sample


def written(word):
    return ",".join(map(str, word)) if word else "-"


class DeskCase(unittest.TestCase):
    def runs(self, desk, *steps):
        """That these commands have these answers, and lead to what is held then."""
        for command, answer in steps:
            self.assertEqual(desk.run(command), answer, command)

    def fails(self, desk, command, at):
        held = desk.held
        for call in (lambda: desk.run(command), lambda: desk.run(command=command)):
            with self.assertRaises(InvalidCommand, msg=repr(command)) as caught:
                call()
            self.assertEqual((caught.exception.command, caught.exception.at), (command, at), repr(command))
            self.assertEqual(desk.held, held)

    def has_nothing(self, desk, word):
        held = desk.held
        with self.assertRaises(NothingToUndo) as caught:
            desk.run(word)
        self.assertEqual(caught.exception.word, word)
        self.assertEqual(desk.held, held)


class Groups(DeskCase):
    def test_what_is_no_group(self):
        for value in ODD_VALUES + ((), [], free_group(1).telling, Places(places_sample("mirrored").telling),
                                   (free_group(1),), [free_group(1)], Desk(free_group(1)), 0, {}):
            for call in (lambda: Desk(value), lambda: Desk(group=value)):
                with self.assertRaises(Undefined) as caught:
                    call()
                self.assertEqual(caught.exception.what, "group")

    def test_at_first(self):
        for name in GROUPS:
            desk = Desk(group=group(name))
            self.assertEqual(desk.held, ())
            self.runs(desk, ("now", "-"), ("length", "0"), ("power 40", "-"), ("is -", "yes"))
            self.has_nothing(desk, "undo")
            self.has_nothing(desk, "redo")


class Changes(DeskCase):
    def test_go(self):
        desk = Desk(free_group(2))
        self.runs(desk, ("go 0,2", "0,2"), ("go 3,3", "0,3"), ("go -", "0,3"), ("go 2,1,1", "1"), ("go 0", "-"))
        self.assertEqual(desk.held, ())
        self.assertEqual(desk.run(command="go 3"), "3")
        self.assertEqual(desk.held, (3,))

    def test_back_and_home(self):
        desk = Desk(table_group(TABLES["swaps"], (1, 2)))
        self.runs(desk, ("back", "-"), ("go 0,1", "0,1"), ("back", "1,0"), ("back", "0,1"), ("home", "-"), ("home", "-"))
        desk = Desk(round_group(8))
        self.runs(desk, ("go 0,0,0", "0,0,0"), ("back", "1,1,1"), ("go 1,1", "0,0,0"), ("go 0,1,0", "0,0,0,0"),
                  ("back", "0,0,0,0"))
        self.assertEqual(desk.held, (0, 0, 0, 0))

    def test_what_comes_behind_is_multiplied_from_the_right(self):
        desk = Desk(group("swap and turn"))
        made = group("swap and turn")
        held = ()
        for word in ((0,), (1,), (0, 1), (1, 0, 1), (2, 0)):
            held = made.times(held, word)
            self.assertEqual(desk.run(f"go {written(word)}"), written(held))

    def test_long_words(self):
        desk = Desk(beside(whole_numbers(), mirrors()))
        self.runs(desk, ("go " + ",".join(["0", "2", "3"] * 13), ",".join(["0"] * 13 + ["2", "3"] * 13)), ("length", "39"))
        self.assertEqual(desk.run("power 40"), ",".join(["0"] * 520 + ["2", "3"] * 520))
        for _ in range(20):
            desk.run("go " + ",".join(["0"] * 40))
        self.runs(desk, ("length", "839"), ("back", ",".join(["1"] * 813 + ["3", "2"] * 13)))


class Questions(DeskCase):
    def test_questions(self):
        desk = Desk(free_group(2))
        desk.run("go 0,2")
        self.runs(desk, ("now", "0,2"), ("length", "2"), ("power 0", "-"), ("power 1", "0,2"), ("power 3", "0,2,0,2,0,2"),
                  ("is 0,2", "yes"), ("is 0,0,1,2", "yes"), ("is 2,0", "no"), ("is -", "no"), ("now", "0,2"))
        self.assertEqual(desk.held, (0, 2))

    def test_answers_are_strings(self):
        desk = Desk(free_group(2))
        for command in ("go 0", "back", "home", "now", "length", "power 2", "is 0", "undo", "redo"):
            self.assertIs(type(desk.run(command)), str)

    def test_they_change_nothing(self):
        desk = Desk(mirrors())
        self.runs(desk, ("go 0,1", "0,1"), ("go 0", "0,1,0"), ("undo", "0,1"))
        for command in ("now", "length", "power 7", "is 0,1", "is 1", "now"):
            desk.run(command)
            self.assertEqual(desk.held, (0, 1))
        self.runs(desk, ("redo", "0,1,0"), ("undo", "0,1"), ("undo", "-"), ("redo", "0,1"))

    def test_equal_words_need_not_be_written_alike(self):
        desk = Desk(round_group(5))
        self.runs(desk, ("go 0,0", "0,0"), ("is 1,1,1", "yes"), ("is 0", "no"), ("is 0,0,0,0,0,0,0", "yes"))
        self.runs(desk, ("power 40", "-"), ("power 39", "1,1"), ("power 2", "1"))


class UndoAndRedo(DeskCase):
    def test_several_changes(self):
        desk = Desk(free_group(2))
        self.runs(desk, ("go 0", "0"), ("go 2", "0,2"), ("back", "3,1"), ("home", "-"), ("undo", "3,1"), ("undo", "0,2"),
                  ("undo", "0"), ("redo", "0,2"), ("redo", "3,1"), ("undo", "0,2"), ("undo", "0"), ("undo", "-"))
        self.has_nothing(desk, "undo")
        self.runs(desk, ("redo", "0"), ("redo", "0,2"), ("redo", "3,1"), ("redo", "-"))
        self.has_nothing(desk, "redo")
        self.assertEqual(desk.held, ())

    def test_a_change_behind_undo(self):
        desk = Desk(free_group(2))
        self.runs(desk, ("go 0", "0"), ("go 2", "0,2"), ("undo", "0"), ("go 3", "0,3"))
        self.has_nothing(desk, "redo")
        self.runs(desk, ("undo", "0"), ("redo", "0,3"), ("undo", "0"), ("undo", "-"), ("home", "-"))
        self.has_nothing(desk, "redo")
        self.runs(desk, ("undo", "-"))
        self.has_nothing(desk, "undo")
        self.runs(desk, ("redo", "-"))

    def test_changes_that_change_nothing(self):
        desk = Desk(free_group(2))
        self.runs(desk, ("go 1", "1"), ("go -", "1"), ("go 0,1", "1"), ("undo", "1"), ("undo", "1"), ("undo", "-"))
        self.has_nothing(desk, "undo")
        self.runs(desk, ("home", "-"), ("back", "-"), ("undo", "-"), ("undo", "-"))
        self.has_nothing(desk, "undo")

    def test_questions_and_errors_are_not_undone(self):
        desk = Desk(free_group(2))
        self.runs(desk, ("go 0", "0"), ("now", "0"))
        self.fails(desk, "go 4", 3)
        self.runs(desk, ("undo", "-"), ("length", "0"), ("is 0", "no"))
        self.fails(desk, "home 1", 5)
        self.has_nothing(desk, "undo")
        self.runs(desk, ("redo", "0"))

    def test_random_commands(self):
        random = Random(201)
        for _ in range(60):
            made = group(random.choice(list(GROUPS)))
            desk, same = Desk(made), Desk(made)
            states, place = [()], 0
            for _ in range(40):
                kind = random.choice(("go", "go", "back", "home", "undo", "undo", "redo", "now", "power", "is"))
                word = tuple(random.randrange(made.telling.letters) for _ in range(random.randint(0, 4)))
                command = f"{kind} {written(word)}" if kind in ("go", "is") else "power 3" if kind == "power" else kind
                if kind in ("go", "back", "home"):
                    held = states[place]
                    new = {"go": made.times(held, word), "back": made.undone(held), "home": ()}[kind]
                    states, place = states[:place + 1] + [new], place + 1
                elif kind == "undo" and place == 0 or kind == "redo" and place == len(states) - 1:
                    self.has_nothing(desk, command)
                    self.has_nothing(same, command)
                    continue
                else:
                    place += {"undo": -1, "redo": 1}.get(kind, 0)
                right = {"power": written(made.power(states[place], 3)),
                         "is": "yes" if made.equal(word, states[place]) else "no"}.get(kind, written(states[place]))
                self.assertEqual(desk.run(command), right)
                self.assertEqual(same.run(command), right)
                self.assertEqual(desk.held, states[place])


class Wrong(DeskCase):
    def setUp(self):
        self.desk = Desk(free_group(2))
        self.desk.run("go 0,2")
        self.desk.run("go 0")
        self.desk.run("undo")

    def tearDown(self):
        # What fails changes nothing, not even what can be undone and done again.
        self.runs(self.desk, ("now", "0,2"), ("redo", "0,2,0"), ("undo", "0,2"), ("undo", "-"))

    def test_first_parts(self):
        for command in ("", " ", "  ", " now", " go 0", "Go 0", "GO", "goo", "g", "now,", "0", "-", "power3", "go,0", "go\t0",
                        "now\n", "\nnow", "Undo", "re", "undo,redo", "is\u00a00", "None", "held", "go0 1", "run 0"):
            self.fails(self.desk, command, 0)

    def test_parts_lacking(self):
        for command in ("go", "power", "is"):
            self.fails(self.desk, command, len(command))

    def test_empty_parts(self):
        for command in ("go", "power", "is"):
            self.fails(self.desk, command + " ", len(command) + 1)
            self.fails(self.desk, command + "  ", len(command) + 1)
            self.fails(self.desk, command + "  0", len(command) + 1)
            self.fails(self.desk, command + " 0 ", len(command) + 3)
            self.fails(self.desk, command + " 0  ", len(command) + 3)
        for command in ("back", "home", "now", "length", "undo", "redo"):
            self.fails(self.desk, command + " ", len(command) + 1)
            self.fails(self.desk, command + "  ", len(command) + 1)

    def test_parts_too_many(self):
        for command in ("back", "home", "now", "length", "undo", "redo"):
            for more in ("0", "-", "0,1", "x", "0 0", "now"):
                self.fails(self.desk, f"{command} {more}", len(command) + 1)
        self.fails(self.desk, "go 0 1", 5)
        self.fails(self.desk, "go 0,1,2 3 4", 9)
        self.fails(self.desk, "go - -", 5)
        self.fails(self.desk, "power 12 0", 9)
        self.fails(self.desk, "is 0,3,2,2 x", 11)

    def test_words(self):
        for part in ("4", "0,4", "9", "00", "0,00", "01", "10", ",", "0,", ",0", "0,,1", "--", "-,0", "0,-", "-0", "-1", "+0",
                     "0;1", "0.1", "(0,)", "x", "0x", "0,1,", "\u0660", "0,\u00b2", "0\n", "0\t", "0,1,2,3,4", "True", "0\r"):
            self.fails(self.desk, f"go {part}", 3)
            self.fails(self.desk, f"is {part}", 3)
            self.fails(self.desk, f"go {part} 0", 3)
        self.fails(self.desk, "go 0, 1", 3)
        self.fails(self.desk, "is 0 ,1", 5)

    def test_numbers(self):
        for part in ("41", "100", "-1", "-0", "00", "01", "012", "+1", "1.0", "1,", "0,1", "-", "x", "4O", "1_0", "\u0661", "\u00b2",
                     "0x1", "1e1", "999999999999999999999999", "1\n"):
            self.fails(self.desk, f"power {part}", 6)
            self.fails(self.desk, f"power {part} 1", 6)

    def test_numbers_that_are_right(self):
        for n in range(41):
            self.assertEqual(self.desk.run(f"power {n}"), written((0, 2) * n))

    def test_letters_of_other_groups(self):
        desk = Desk(table_group(TABLES["2"], (1,)))
        self.runs(desk, ("go 0", "0"), ("go 0,0,0", "-"))
        self.fails(desk, "go 1", 3)
        self.fails(desk, "is 0,1", 3)


if __name__ == "__main__":
    unittest.main()
