"""A memo: what was reckoned is kept for as long as what goes into it stays the same."""


class Memo:
    def __init__(self):
        self.entries = {}
        self.called = {}

    def ask(self, key, inputs, reckon):
        # By membership and not by what is kept: None may be kept, too.
        if key in self.entries and self.entries[key][0] == inputs:
            return self.entries[key][1]
        found = reckon()
        self.entries[key] = (inputs, found)
        self.called[key] = True
        return found

    def forget(self, key):
        self.entries.pop(key, None)

    def news(self):
        found = sorted(self.called)
        self.called = {}
        return found
