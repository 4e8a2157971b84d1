"""Logs: rows taken so that none comes ahead of its causes.

A row is a tuple (house, number, causes, deed).
"""


class Log:
    def __init__(self, houses):
        self.taken = []
        self.reached = [0] * houses
        self.held = {}

    def take(self, row):
        if row[1] < self.reached[row[0]]:
            return "known"
        if not self.can_take(row):
            self.held.setdefault((row[0], row[1]), row)
            return "waits"
        self.put(row)
        self.take_held()
        return "taken"

    def counts(self):
        return tuple(self.reached)

    def rows(self):
        return list(self.taken)

    def waiting(self):
        return sorted(self.held)

    def can_take(self, row):
        if row[1] != self.reached[row[0]]:
            return False
        return all([cause <= count for cause, count in zip(row[2], self.reached)])

    def put(self, row):
        self.taken.append(row)
        self.reached[row[0]] += 1

    def take_held(self):
        row = self.first_held()
        while row is not None:
            self.held.pop((row[0], row[1]))
            self.put(row)
            row = self.first_held()

    def first_held(self):
        # Of each house only the row of one number can be taken, so to go
        # through the houses is to go through all that wait.
        for house, count in enumerate(self.reached):
            row = self.held.get((house, count))
            if row is not None and self.can_take(row):
                return row
        return None

    def begin(self, counts):
        self.reached = list(counts)

    def drop(self, counts):
        self.taken = [row for row in self.taken if row[1] >= counts[row[0]]]
