"""Growth: how ranges grow from empty ones to the least holding, move by move."""

from tightranges.effects import rule_counts, rule_gives
from tightranges.ranges import joined
from tightranges.rounds import SIDES, course_of, end_of, gone_on, side_across, times_to_most, with_end


class Growth:
    """Ranges of a system that grow by moves, and never beyond the least holding.

    For each end that a step has set, it keeps the number of the step and the end that the step has read. Where
    these lead from an end back to itself, the end grows by going this round, and goes it at once as far as it can.
    Where they do not, each end has come from another one through few steps; so the ranges come to rest soon.
    """

    def __init__(self, system):
        self.ranges = {name: None for name in system.names}
        self.moves = []
        self._rules = system.rules
        self._sources = {}

    def sweep(self):
        """Applies each rule once; tells whether a range has grown."""
        many = len(self.moves)
        for number in range(len(self._rules)):
            self._apply(number)
        return len(self.moves) > many

    def _apply(self, number):
        """Makes the move of a rule if a range grows by it."""
        rule = self._rules[number]
        if not rule_counts(rule, self.ranges):
            return
        x = rule[1]
        before = self.ranges[x]
        after = joined(before, rule_gives(rule, self.ranges))
        if after == before:
            return
        self.ranges[x] = after
        self.moves.append(("rule", number))
        sides = [side for side in SIDES if before is None or end_of(before, side) != end_of(after, side)]
        # What is kept of both ends is out of date before either of them is followed back.
        for side in sides:
            self._sources.pop((x, side), None)
        if rule[0] == "step":
            for side in sides:
                self._follow_back(number, x, side)

    def _follow_back(self, number, x, side):
        """Keeps what a step has read for an end of x; if this closes a round, the end goes it."""
        y, factor = self._rules[number][2:4]
        self._sources[(x, side)] = (number, (y, side_across(side, factor)))
        numbers = self._closed_round((x, side))
        if numbers:
            # The end stands where the round takes it, and no more where another end takes it.
            self._sources.pop((x, side))
            self._go_round(numbers, x, side)

    def _closed_round(self, start):
        """Returns the numbers of the steps that lead from an end back to itself, none if they do not."""
        numbers = []
        at = start
        while at in self._sources:
            number, at = self._sources[at]
            numbers.append(number)
            if at == start:
                return tuple(numbers[::-1])
        return ()

    def _go_round(self, numbers, x, side):
        """Lets an end of x go a round until it is stopped, or for ever."""
        course = course_of([self._rules[number] for number in numbers], side)
        end, most = end_of(self.ranges[x], side), course[2]
        if gone_on(end, course, 1) == end:
            return
        if most is None:
            self.moves.append(("grow", numbers, side))
        while most is not None and end < most:
            times = times_to_most(end, course)
            end = gone_on(end, course, times)
            self.moves.append(("round", numbers, side, times))
        self.ranges[x] = with_end(self.ranges[x], side, most)


def grown(system):
    """Returns the least holding of a system, and the list of moves that lead to it."""
    growth = Growth(system)
    while growth.sweep():
        pass
    return growth.ranges, growth.moves
