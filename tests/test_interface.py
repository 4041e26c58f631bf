"""Each name of the interface stands in its file with its parameters (point 3, the interface)."""

import ast
import importlib
import inspect
import unittest

INTERFACE = {
    "frames": {"Frame": "prime heights product step"},
    "rows": {"multiplied": "frame one other", "stepped": "frame row", "added": "frame one other times",
             "heights_of": "frame row", "one_row": "frame"},
    "makers": {"turning_frame": "prime letters steps", "faces_frame": "prime faces",
               "words_frame": "prime heights steps most"},
    "sides": {"turned": "frame", "beside": "one other", "renamed": "frame order", "plain_part": "frame places"},
    "leftovers": {"left_sizes": "frame", "is_left": "frame row", "is_made": "frame row"},
    "choices": {"is_choice": "frame thing", "made_choice": "frame", "left_heights": "frame choice",
                "left_product": "frame choice"},
    "many": {"Many": "prime heights most products", "rule_rows": "prime heights products length",
             "product_row": "many word", "rows_product": "many rows", "ends": "many", "cut_many": "many length",
             "many_of": "frame most", "frame_of": "many"},
    "leads": {"Lead": "one other rows", "plain_lead": "many", "put_behind": "first second", "undone_lead": "lead"},
    "transfers": {"left_many": "frame choice most", "left_into": "frame choice most",
                  "left_onto": "frame choice most"},
    "moves": {"moved_many": "many heights rows"},
    "leasts": {"is_least": "many", "least_many": "many", "leaves_same": "lead"},
    "alikes": {"alike_lead": "one other", "alike_firsts": "one other"},
    "sames": {"choice_lead": "frame one other most", "same_lead": "one other most"},
    "tidyrows": {"tidy_rows": "prime rows", "row_less": "prime tidy row"},
    "doubts": {"doubt_of_three": "many one other third", "doubt_of_four": "many one other third fourth"},
    "framedoubts": {"frame_doubt_of_three": "frame choice one other third",
                    "frame_doubt_of_four": "frame choice one other third fourth"},
    "plainmaps": {"is_plain_map": "one other rows", "map_left": "one choice other mate rows"},
    "changes": {"is_change": "many turn thing", "changes_put": "many one one_turn other other_turn",
                "changes_bracket": "many one one_turn other other_turn", "changed": "many change turn",
                "change_sizes": "many length turn", "told_change": "many change turn"},
    "formal": {"first_place": "many", "is_formal": "many", "done_away": "many", "scaled_lead": "many unit"},
    "letterbooks": {"LetterBook": "prime letters most rules", "rest_texts": "book length", "rest": "book texts"},
    "bars": {"bars": "book", "bar_step": "book row", "bar_product": "book one other", "ladder_counts": "book"},
    "barchoices": {"bar_choice": "book", "is_bar_choice": "book thing"},
    "ladders": {"ladder_lengths": "book", "ladder_many": "book choice"},
    "toldback": {"told_rules": "many lengths", "told_book": "many lengths", "is_level": "book",
                 "stands_by_turns": "book length"},
    "bigrows": {"big_table": "prime heights most products", "twice_left": "prime heights most table",
                "is_big": "prime heights most thing", "products_told": "prime heights most table"},
    "bigsizes": {"big_sizes": "many length", "big_led": "lead words"},
    "wordsplits": {"line_sizes": "many length"},
    "shuffles": {"shuffles": "heights one other", "turns_round": "many"},
    "ones": {"is_one": "many row", "one_left": "frame choice"},
    "pairings": {"is_end": "frame thing", "is_fit": "frame end choice", "fit_choice": "frame end",
                 "end_number": "frame end choice word"},
    "live": {"is_deed": "thing", "LiveFrame": "frame"},
    "frametexts": {"frame_text": "frame", "frame_of_text": "text"},
    "deedtexts": {"deed_text": "deed", "deed_of_text": "text"},
    "journals": {"journal_text": "live", "led_live": "text"},
    "desk": {"Desk": "frame"},
}
METHODS = {
    "live": {"LiveFrame": {"do": "self deed", "deeds": "self", "undo": "self", "redo": "self", "told": "self",
                           "watch": "self name row", "unwatch": "self name", "watched": "self",
                           "three": "self one other last"}},
    "desk": {"Desk": {"say": "self line"}},
}


class InterfaceTest(unittest.TestCase):
    def test_names_and_parameters(self):
        for file, names in INTERFACE.items():
            module = importlib.import_module(f"leftproducts.{file}")
            with open(module.__file__, encoding="utf-8") as source:
                tree = ast.parse(source.read())
            here = [part.name for part in tree.body if isinstance(part, (ast.FunctionDef, ast.ClassDef))]
            for name, parameters in names.items():
                self.assertIn(name, here)
                thing = getattr(module, name)
                self.assertEqual(list(inspect.signature(thing).parameters), parameters.split(), name)

    def test_methods_stand_in_their_class(self):
        for file, classes in METHODS.items():
            module = importlib.import_module(f"leftproducts.{file}")
            for name, methods in classes.items():
                for method, parameters in methods.items():
                    own = vars(getattr(module, name))[method]
                    self.assertEqual(list(inspect.signature(own).parameters), parameters.split(), method)

    def test_objects_are_equal_to_nothing_of_another_kind(self):
        from leftproducts.desk import Desk
        from leftproducts.frames import Frame
        from leftproducts.leads import plain_lead
        from leftproducts.letterbooks import LetterBook
        from leftproducts.live import LiveFrame
        from leftproducts.many import many_of
        frame = Frame(3, [0], {}, {})
        many = many_of(frame, 2)
        things = [frame, many, plain_lead(many), LetterBook(3, 1, 2, []), LiveFrame(frame), Desk(frame), None, (), {},
                  0, "x"]
        for k, one in enumerate(things):
            for j, other in enumerate(things):
                self.assertEqual(one == other, k == j)


if __name__ == "__main__":
    unittest.main()
