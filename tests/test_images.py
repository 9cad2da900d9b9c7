"""Points 21, 22 and 23: images and their texts."""

import random

from guestsalone.codes import entry
from guestsalone.core import Core
from guestsalone.errors import NoImage, NoRow, NoText
from guestsalone.images import image_of, image_text, is_image, read_image
from tests.helpers import GREATEST, NO_ROOMS, NOUGHTS, Case, op, rows

EMPTY = (NO_ROOMS, NO_ROOMS)
FULL = (tuple((4095,) * 8 for _ in range(8)),) * 2


def with_word(word):
    """An image whose last word is this thing."""
    return (NO_ROOMS, (NOUGHTS,) * 7 + ((0,) * 7 + (word,),))


NO_IMAGES = [
    None, True, 0, GREATEST, "", "room 0", [], (), {}, list(EMPTY), (NO_ROOMS,), EMPTY + (NO_ROOMS,), NO_ROOMS,
    (list(NO_ROOMS), NO_ROOMS), (NO_ROOMS, list(NO_ROOMS)), (NO_ROOMS, None), (None, NO_ROOMS),
    (NO_ROOMS[:7], NO_ROOMS), (NO_ROOMS, NO_ROOMS + (NOUGHTS,)), (NO_ROOMS[:7] + (list(NOUGHTS),), NO_ROOMS),
    (NO_ROOMS[:7] + (NOUGHTS[:7],), NO_ROOMS), (NO_ROOMS[:7] + (NOUGHTS + (0,),), NO_ROOMS),
    with_word(True), with_word(False), with_word(None), with_word("0"), with_word(-1), with_word(4096),
    with_word(GREATEST), with_word([0]), with_word(()), Core(NO_ROOMS),
]


class ImageTest(Case):
    def test_what_is_one(self):
        for thing in (EMPTY, FULL, with_word(4095), with_word(0)):
            self.assertIs(is_image(thing), True)

    def test_what_is_none(self):
        for thing in NO_IMAGES:
            self.assertIs(is_image(thing), False)

    def test_made_of_nothing(self):
        self.assertEqual(image_of(), EMPTY)
        self.assertEqual(image_of(None, blocks=None), EMPTY)
        self.assertEqual(image_of({}, blocks={}), EMPTY)
        self.assertEqual(image_of({3: []}, blocks={0: ()}), EMPTY)

    def test_made_of_dicts(self):
        image = image_of({7: [1, 2], 0: (4095,) * 8}, blocks={1: [0, 0, 3]})
        self.assertEqual(image, (rows({7: [1, 2], 0: [4095] * 8}), rows({1: [0, 0, 3]})))
        self.assertIs(is_image(image), True)
        self.assertEqual(image_of(rooms={1: [5]}), (rows({1: [5]}), NO_ROOMS))
        self.assertEqual(image_of(blocks={1: [5]}), (NO_ROOMS, rows({1: [5]})))

    def test_blocks_are_told_by_their_name_alone(self):
        self.assertRaises(TypeError, image_of, {}, {})

    def test_what_is_handed_in_stays(self):
        rooms, words = {1: [1, 2]}, [1, 2]
        image = image_of(rooms, blocks={0: words})
        words.append(3)
        rooms[1].append(3)
        self.assertEqual(image, (rows({1: [1, 2]}), rows({0: [1, 2]})))
        self.assertEqual(rooms, {1: [1, 2, 3]})

    def test_no_rooms_and_no_blocks(self):
        for thing in [True, False, 0, 1, "", "room", [], (), [[1]], NO_ROOMS, {True: [1]}, {8: [1]}, {-1: [1]},
                      {"0": [1]}, {None: [1]}, {(0,): []}, {GREATEST: []}, {0: None}, {0: 1}, {0: "12"}, {0: {1: 1}},
                      {0: [0] * 9}, {0: (1,) * 9}, {0: [4096]}, {0: [-1]}, {0: [True]}, {0: [None]}, {0: ["1"]},
                      {0: [[1]]}, {0: [1], 1: [GREATEST]}]:
            self.refused_found(NoImage, thing, image_of, thing)
            self.refused_found(NoImage, thing, image_of, None, blocks=thing)
            self.refused_found(NoImage, thing, image_of, {0: [1]}, blocks=thing)

    def test_rooms_are_looked_at_ahead_of_blocks(self):
        rooms, blocks = {8: []}, {9: []}
        self.refused_found(NoImage, rooms, image_of, rooms, blocks=blocks)


class TextTest(Case):
    def test_nothing_is_written_of_noughts(self):
        self.assertEqual(image_text(EMPTY), "")

    def test_rooms_are_written_as_codes_and_blocks_as_words(self):
        image = image_of({2: [op("set", 1, 5), 0, op("wait", 3, 63)], 1: [0, 0, 1]}, blocks={7: [4095, 0, 9, 0]})
        self.assertEqual(image_text(image), "\n".join([
            "room 1", "halt 0 0", "halt 0 0", "halt 0 1",
            "room 2", "set 1 5", "halt 0 0", "wait 3 63",
            "block 7", "word 4095", "word 0", "word 9",
        ]))

    def test_up_to_the_last_cell(self):
        last = {0: [0] * 7 + [64]}
        self.assertEqual(image_text(image_of(last)), "\n".join(["room 0"] + ["halt 0 0"] * 7 + ["halt 1 0"]))
        self.assertEqual(image_text(image_of(blocks=last)), "\n".join(["block 0"] + ["word 0"] * 7 + ["word 64"]))

    def test_no_image(self):
        for thing in NO_IMAGES:
            self.refused_found(NoImage, thing, image_text, thing)

    def test_what_is_written_is_read_as_the_same_image(self):
        chance = random.Random(22)
        for _ in range(60):
            image = tuple(
                rows({number: [chance.choice([0, 0, chance.randrange(4096)]) for _ in range(8)]
                      for number in range(8) if chance.random() < 0.6})
                for _ in range(2)
            )
            self.assertEqual(read_image(image_text(image)), image)
        for image in (EMPTY, FULL):
            self.assertEqual(read_image(image_text(image)), image)


class ReadTest(Case):
    def test_texts_without_signs_and_rows_of_blanks(self):
        for text in ("", " ", "\n", "  \n\n   \n", "room 0", "block 7\nroom 1"):
            self.assertEqual(read_image(text), EMPTY)

    def test_each_kind_of_row(self):
        text = ("room 0\nleaf 1\nleaf 2 write\nnone\nword 77\nset 3 63\nhalt 0 0\nwait 0 1\n"
                "block 3\nword 4095\nleaf 0\nadd 1 2")
        self.assertEqual(read_image(text), image_of(
            {0: [entry(1), entry(2, write=True), 0, 77, op("set", 3, 63), 0, op("wait", 0, 1)]},
            blocks={3: [4095, entry(0), op("add", 1, 2)]},
        ))

    def test_however_many_blanks(self):
        self.assertEqual(read_image("  room   4 \n\n   leaf  7    write  \n \n word     9   "),
                         image_of({4: [entry(7, write=True), 9]}))

    def test_a_room_in_several_parts(self):
        text = "room 1\nword 1\nblock 1\nword 2\nroom 2\nword 3\nroom 1\nword 4\nblock 1\nword 5\nroom 1\nword 6"
        self.assertEqual(read_image(text), image_of({1: [1, 4, 6], 2: [3]}, blocks={1: [2, 5]}))

    def test_eight_words_and_a_ninth_one(self):
        eight = "room 5\n" + "\n".join(["word 1"] * 8)
        self.assertEqual(read_image(eight), image_of({5: [1] * 8}))
        self.assertEqual(read_image(eight + "\nroom 5"), image_of({5: [1] * 8}))
        self.refused(NoRow, {"at": 9}, read_image, eight + "\nword 1")
        self.refused(NoRow, {"at": 9}, read_image, eight + "\nnone")
        self.refused(NoRow, {"at": 10}, read_image, eight + "\nroom 5\nword 0")
        self.refused(NoRow, {"at": 13}, read_image, eight + "\nblock 5\nword 3\n\nroom 5\nword 0")

    def test_a_word_ahead_of_any_room(self):
        for row in ("word 1", "none", "leaf 1", "set 0 1"):
            self.refused(NoRow, {"at": 0}, read_image, row)
            self.refused(NoRow, {"at": 2}, read_image, "\n \n" + row + "\nroom 1")

    def test_rows_that_are_none(self):
        for row in ("room", "room 8", "room -1", "room 01", "room one", "room 1 1", "Room 1", "rooms 1", "block",
                    "block 8", "block 00", "block 1 2", "word", "word 4096", "word 07", "word 1 2", "word -1", "leaf",
                    "leaf 8", "leaf 1 read", "leaf 1 write write", "leaf write", "leaf write 1", "leaf 01", "none 0",
                    "none none", "set", "set 1", "set 1 5 6", "set 4 0", "set 0 64", "set 00 1", "set 0 01", "set a b",
                    "Set 0 1", "nop 0 0", "1 0 0", "0", "halt", "set\t0 1", "word 1,", "room\t1", "word 1000000", "-"):
            self.refused(NoRow, {"at": 3}, read_image, "room 1\nword 1\n\n" + row + "\nword 4096")

    def test_the_first_wrong_row_goes(self):
        self.refused(NoRow, {"at": 1}, read_image, "room 0\nfoo\nbar")
        self.refused(NoRow, {"at": 0}, read_image, "foo\nroom 0\nbar")

    def test_no_text(self):
        for thing in (None, True, 0, GREATEST, [], ["room 1"], ("room 1",), {}, {"room": 1}, EMPTY, Core(NO_ROOMS)):
            self.refused_found(NoText, thing, read_image, thing)

    def test_by_names(self):
        self.assertEqual(read_image(text=image_text(image=EMPTY)), EMPTY)
        self.assertIs(is_image(thing=EMPTY), True)
