"""Trials, behind which a watch is again as it was [8.13]."""


class Trial:
    """What a watch was like at the start of a block; it is so again at the end."""

    def __init__(self, watch):
        self.watch = watch
        self.old_record = None
        self.old_now = None
        self.old_log = None
        self.old_kept = None
        self.old_deadline = None

    def __enter__(self):
        self.old_record = self.watch.record
        self.old_now = self.watch._now
        self.old_log = self.watch._log
        self.old_kept = self.watch._kept
        self.old_deadline = self.watch._deadline
        return self.watch

    def __exit__(self, kind, value, trace):
        watch = self.watch
        watch.record = self.old_record
        watch._now = self.old_now
        watch._log = self.old_log
        watch._kept = self.old_kept
        watch._deadline = self.old_deadline
