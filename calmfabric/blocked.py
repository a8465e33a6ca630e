"""Blocked channels: what can still move in a state, and what shows that it can or cannot."""

from calmfabric.errors import NotPossible
from calmfabric.networks import is_home, options
from calmfabric.packets import first_of, is_full, is_step, play
from calmfabric.values import is_ascending_below


def greatest_jam(fabric, state):
    """Return the channels of the greatest jam, ascending."""
    return tuple([c for c, stage in enumerate(jam_stages(fabric, state)) if stage is None])


def jam_stages(fabric, state):
    """List the stages at which the channels are taken out, None for those of the greatest jam."""
    many = len(state[1])
    cells = [([c], exits(fabric, state, c)) for c in range(many) if can_jam(fabric, state, c)]
    return stages_of(many, cells, ())


def can_jam(fabric, state, c):
    """Tell whether a channel is full and its first packet is not at home."""
    return is_full(fabric, state, c) and not is_at_home(fabric, state, c)


def is_at_home(fabric, state, c):
    """Tell whether the first packet of a channel that is not empty is at home."""
    return is_home(fabric, c, first_of(state, c)[1])


def exits(fabric, state, c):
    """Return the options of the first packet of a channel that is not empty."""
    return options(fabric, c, first_of(state, c)[1])


def stages_of(many, cells, barred):
    """List at which stage each of so many channels is taken out, None for those that are left.

    A cell is a pair: the channels that wait at it, and its options. It is open when one of its options was taken
    out. A channel is taken out at the stage behind that at which the last of its cells was opened; at the stage 0
    if it waits at no cell, or is barred.
    """
    waits = count_cells(many, cells)
    doors = doors_of(many, cells)
    gone = set(barred)
    going = [c for c in range(many) if waits[c] == 0 or c in gone]
    stages = [None] * many
    shut = [True] * len(cells)
    stage = 0
    while going:
        for c in going:
            stages[c] = stage
        reached = sorted({k for c in going for k in doors[c]})
        opening = [k for k in reached if shut[k]]
        for k in opening:
            shut[k] = False
        freed = []
        for c in [user for k in opening for user in cells[k][0]]:
            waits[c] -= 1
            if waits[c] == 0 and stages[c] is None:
                freed.append(c)
        going = freed
        stage += 1
    return stages


def count_cells(many, cells):
    """List at how many cells each channel waits."""
    waits = [0] * many
    for waiting, _ in cells:
        for c in waiting:
            waits[c] += 1
    return waits


def doors_of(many, cells):
    """List for each channel the indexes of the cells of which it is an option."""
    doors = [[] for _ in range(many)]
    for k, (_, cell) in enumerate(cells):
        for c in cell:
            doors[c].append(k)
    return doors


def is_jam(fabric, state, value):
    """Tell whether any value is an ascending tuple of channels that is a jam."""
    if not is_ascending_below(value, len(state[1])):
        return False
    if not all([can_jam(fabric, state, c) for c in value]):
        return False
    inside = set(value)
    return all([option in inside for c in value for option in exits(fabric, state, c)])


def blocked(fabric, state):
    """Return the blocked channels, ascending."""
    jam = greatest_jam(fabric, state)
    return tuple([c for c in range(len(state[1])) if is_held(fabric, state, jam, c)])


def is_held(fabric, state, jam, c):
    """Tell whether a jam shows that a channel is blocked."""
    if first_of(state, c) is None or is_at_home(fabric, state, c):
        return False
    # The channels of the jam are such ones, too.
    inside = set(jam)
    return all([option in inside for option in exits(fabric, state, c)])


def stuck_packets(fabric, state):
    """List the numbers of the packets in blocked channels, ascending."""
    return sorted([number for c in blocked(fabric, state) for number, _ in state[1][c]])


def stop_of(fabric, state, c):
    """Return the greatest jam if it is a stop for the channel, otherwise None."""
    jam = greatest_jam(fabric, state)
    return jam if is_held(fabric, state, jam, c) else None


def is_stop(fabric, state, c, value):
    """Tell whether any value is a stop for the channel."""
    return is_jam(fabric, state, value) and is_held(fabric, state, value, c)


def way_out(fabric, state, c):
    """Return a way out for the channel, or None."""
    if first_of(state, c) is None:
        return None
    if is_at_home(fabric, state, c):
        return (("out", c),)
    row = row_to_room(fabric, state, c)
    if len(row) == 1:
        return None
    # The row ends where there is room, or where a packet at home can make it.
    steps = [("out", row[-1])] if is_full(fabric, state, row[-1]) else []
    steps.extend([("go", row[k - 1], row[k]) for k in range(len(row) - 1, 0, -1)])
    return tuple(steps)


def row_to_room(fabric, state, c):
    """List channels from c on, each with the next one as an option, up to one that has room or can make it at once."""
    stages = jam_stages(fabric, state)
    row = [c]
    ahead = earliest_exit(fabric, state, stages, c)
    while ahead is not None:
        row.append(ahead)
        # Stages go down along the row; only c itself, if it is not full, can come again, and then it is the last.
        ahead = earliest_exit(fabric, state, stages, ahead) if is_full(fabric, state, ahead) else None
    return row


def earliest_exit(fabric, state, stages, c):
    """Return the option of the first packet of a channel that was taken out at the earliest stage, or None."""
    found = [(stages[option], option) for option in exits(fabric, state, c) if stages[option] is not None]
    return min(found)[1] if found else None


def is_way_out(fabric, state, c, value):
    """Tell whether any value is a way out for the channel."""
    if not isinstance(value, tuple) or first_of(state, c) is None:
        return False
    if not all([is_step(step) and step[0] != "put" for step in value]):
        return False
    # As long as nothing has left the channel, its first packet is the same.
    if [k for k, step in enumerate(value) if step[1] == c] != [len(value) - 1]:
        return False
    return can_be_played(fabric, state, value)


def can_be_played(fabric, state, script):
    """Tell whether a script can be played from a state."""
    try:
        play(fabric, state, script)
    except NotPossible:
        return False
    return True


def is_calm(fabric, state):
    """Tell whether no channel is blocked."""
    return not blocked(fabric, state)


def is_dead(fabric, state):
    """Tell whether there are packets, and all channels that are not empty are blocked."""
    packed = tuple([c for c, queue in enumerate(state[1]) if queue])
    return packed != () and blocked(fabric, state) == packed
