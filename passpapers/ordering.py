"""The rows of a machine's blocks ordered so that they take fewer ticks."""

from passpapers.delays import Clock, ticks_of
from passpapers.ordered import waits_of
from passpapers.places import place_written, places_read

# So many rows are ordered at once: a block may have tens of thousands.
MOST_AT_ONCE = 100


def order_rows(machine, delays):
    """(outcome, paper): no block takes more ticks by these delays than before."""
    orders = [[block_order(block[1], delays) for block in function[3]] for function in machine[1]]
    functions = []
    for function, told in zip(machine[1], orders):
        blocks = [block_ordered(block, order) for block, order in zip(function[3], told)]
        functions.append(function[:3] + (tuple(blocks),))
    body = tuple([tuple([tuple(order) for order in told]) for told in orders])
    return (machine[0], tuple(functions)), ("ordered", body)


def block_ordered(block, order):
    label, rows, end = block
    return (label, tuple([rows[number] for number in order]), end)


def block_order(rows, delays):
    """Which row is to stand at each place: as they stand, where no better order is found."""
    order = order_planned(rows, delays)
    if ticks_of([rows[number] for number in order], delays) < ticks_of(rows, delays):
        return order
    return list(range(len(rows)))


class Queue:
    """Rows that wait for others: who follows each, and for how many each still waits."""

    def __init__(self, waits):
        self.followers = [[] for ahead in waits]
        self.waiting_for = [len(ahead) for ahead in waits]
        for number, ahead in enumerate(waits):
            for other in ahead:
                self.followers[other].append(number)

    def let_follow(self, number):
        """The row of that number has its place: its followers wait no longer for it."""
        for follower in self.followers[number]:
            self.waiting_for[follower] -= 1


def order_planned(rows, delays):
    """Takes, of the rows that wait for none, the one that begins first; of these the one most ticks hang on."""
    queue = Queue(waits_of(rows))
    clock = Clock(delays)
    weights = weights_of(rows, queue, clock)
    order = []
    for start in range(0, len(rows), MOST_AT_ONCE):
        left = list(range(start, min(start + MOST_AT_ONCE, len(rows))))
        while len(left) > 0:
            free = [number for number in left if queue.waiting_for[number] == 0]
            best = min(free, key=lambda number: (clock.beginning(rows[number]), -weights[number], number))
            left.remove(best)
            clock.begin(rows[best])
            queue.let_follow(best)
            order.append(best)
    return order


def weights_of(rows, queue, clock):
    """For each row how many ticks pass, at least, from its beginning on, by the rows that wait for it."""
    weights = [0] * len(rows)
    for number in reversed(range(len(rows))):
        row = rows[number]
        written = place_written(row)
        weights[number] = 0 if written is None else clock.delay_of(row)
        for follower in queue.followers[number]:
            lag = clock.delay_of(row) if written in places_read(rows[follower]) else 1
            weights[number] = max(weights[number], lag + weights[follower])
    return weights
