"""The interface: each name in its file, each method in its class itself, with its arguments."""

import ast
import pathlib
import unittest

PACKAGE = pathlib.Path(__file__).resolve().parent.parent / "guestsalone"

FUNCTIONS = """
words: is_whole(thing, low, high); is_name(thing); number_in(thing, *, least=0, most=MOST)
codes: parts_of(word); code(op, which, rest); op_of(name); entry(room, *, write=False); entry_parts(word)
codes: sum_of(one, other); difference(one, other); divided(one, other); bits_of(word); word_of_bits(bits)
images: is_image(thing); image_of(rooms=None, *, blocks=None); image_text(image); read_image(text)
core: core_of(stands, told, sent)
plain: is_log(thing); run_alone(image, log=(), *, end=100)
shares: first_broken(length, guests, ready, dealt)
snapshots: snapshot_of(house, name); put_back(house, name, guest)
snapshots: cloned(house, guest, name, *, promise=1, ceiling=None); run_on(guest, log=(), *, end=100)
snaptext: guest_text(guest); read_guest(text)
logtext: log_text(log); trail_text(trail); read_log(text); read_trail(text)
deeds: is_deed(thing); do(world, deed); history_text(world); read_history(text); replayed(text)
papers: walked(image, log, trail); parted(house, name, other, other_name); pair_told(text, other, name)
papers: stops_of(house, name); greatest_stop(house, name)
touching: leads(rooms, table); touched(image, log=(), *, end=100)
lines: read_line(line)
"""
METHODS = """
core Core: __init__(blocks); step(store); arrive(kind, word); registers(); told(); sent(); asks(); queue(kind)
core Core: blocks(); due(); counter(); table(); time(); handler(); back_to(); cause(); asks_made(); asks_done()
core Core: is_trapped(); state(); stands(); twin(); __eq__(other)
plain PlainStore: __init__(rooms); read_cell(room, cell); write_cell(room, cell, word); room(number); rooms(); twin()
plain PlainMachine: __init__(image); step(); arrive(kind, word); core(); store(); time(); state(); log(); trail()
plain PlainMachine: twin()
rooms Rooms: __init__(many); come(name, rooms); go(name); replaced(name, rooms); read_cell(name, room, cell)
rooms Rooms: write_cell(name, room, cell, word); store(name); take_back(name, room); share(); how_many(); shared()
rooms Rooms: names(); in_use(); way(name, room); words(name, room); rooms_of(name); lying(number); twin()
queues Queue: __init__(); put(name, number); serve(); leave(name); of(name); waiting(); comes_at(name, number)
queues Queue: __len__(); twin()
queues Switch: __init__(); post(port, word); posted(port); how_many(port); letter(port, number); twin()
shares Shares: __init__(length); come(name, promise, ceiling); go(name); change(name, promise, ceiling); deal(ready)
shares Shares: length(); names(); promise(name); ceiling(name); counting(name); used(name); passed(); promised()
shares Shares: dealt(); twin()
house Guest: __init__(core, rooms, log, trail); core(); rooms(); log(); trail(); __eq__(other)
house House: __init__(rooms, *, length=12); come(name, image, *, promise=1, ceiling=None); stop(name); go_on(name)
house House: turns(many=1); arrive(name, kind, word); names(); turn(); core(name); rooms_of(name); log(name)
house House: trail(name); stepped(name); is_ready(name); is_held(name); is_stopped(name); rooms(); shares(); queue()
house House: passed(); twin(); take_back(name, room); share(); change(name, promise, ceiling); leave(name)
house House: bring(name, guest, *, promise=1, ceiling=None); replace(name, guest)
roads Road: __init__(); put(side, letter); come(number); lose(number); double(number); under_way(); __len__(); twin()
moves Move: __init__(source, goal, name, *, most=2, patience=8, promise=1, ceiling=None); one_round(); stop(); again()
moves Move: call_off(); come(number); lose(number); double(number); look(); phase(); rounds(); stopped_for()
moves Move: letters(); unsure(); runs_at()
world World: __init__(houses); come(house, name, image, *, port, promise=1, ceiling=None); keep(name, *, whole=False)
world World: say(name, text); fall(house); rise(house); come_up(name, house, *, promise=1, ceiling=None)
world World: move(name, house, *, most=2, patience=8, promise=1, ceiling=None); turns(house, many=1)
world World: move_deed(name, word, number=None); made(); houses(); standing(); names(); told(name); letters(name)
world World: posted(port); deeds(); where(name); phase(name); port(name); kept(name); house(name); twin()
desk Desk: __init__(); say(line); say_all(lines); told()
"""


def listed(table):
    for row in table.strip().split("\n"):
        head, calls = row.split(": ")
        for call in calls.split("; "):
            yield head, call


def defined(body):
    """The calls that the functions of a body take, without an object of their own."""
    found = set()
    for node in body:
        if isinstance(node, ast.FunctionDef):
            told = ast.unparse(node.args)
            found.add(f"{node.name}({', '.join([part for part in told.split(', ') if part != 'self'])})")
    return found


class InterfaceTest(unittest.TestCase):
    def tree(self, file):
        return ast.parse((PACKAGE / f"{file}.py").read_text())

    def test_functions(self):
        for file, call in listed(FUNCTIONS):
            self.assertIn(call, defined(self.tree(file).body), file)

    def test_methods(self):
        for head, call in listed(METHODS):
            file, name = head.split(" ")
            found = [node for node in self.tree(file).body if isinstance(node, ast.ClassDef) and node.name == name]
            self.assertEqual(len(found), 1, head)
            self.assertIn(call, defined(found[0].body), head)
