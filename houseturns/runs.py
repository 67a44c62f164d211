"""The runs of contracts: to whom the lots that are exercised are assigned."""

# By one call.
MOST_ASSIGNED = 1000


class Run:
    # The base tells the lots of each account that is short, by rising accounts:
    # of equal deadlines the one met first is taken, and it must be the lowest.
    def __init__(self, base):
        self.base = base
        self.total = sum(base.values())
        self.assigned = {}
        self.count = 0
        for account in base:
            self.assigned[account] = 0


def empty_run():
    return Run({})


def run_begun_anew(held):
    base = {}
    for account in sorted(held):
        if held[account] < 0:
            base[account] = -held[account]
    return Run(base)


def deadline(run, account):
    lots = run.base[account]
    return ((run.assigned[account] + 1) * run.total + lots - 1) // lots


def is_due(run, account):
    return run.assigned[account] * run.total < (run.count + 1) * run.base[account]


# There is always one due as long as the count is less than the total.
def next_assigned(run):
    chosen = 0
    least = 0
    for account in run.base:
        if is_due(run, account):
            own = deadline(run, account)
            if chosen == 0 or own < least:
                chosen = account
                least = own
    return chosen


# Answers how many lots each account was assigned, by rising accounts, without those that got none.
def assign(run, n):
    before = dict(run.assigned)
    for step in range(n):
        account = next_assigned(run)
        run.assigned[account] += 1
        run.count += 1
    got = {}
    for account in run.base:
        lots = run.assigned[account] - before[account]
        if lots > 0:
            got[account] = lots
    return got


def copied_run(run):
    copied = Run(dict(run.base))
    copied.assigned = dict(run.assigned)
    copied.count = run.count
    return copied


# Answers what assign would answer, and leaves the run as it is.
def would_be_assigned(run, n):
    return assign(copied_run(run), n)
