package trace

import "plait/api"

// asks is what is asked of an event, by its kind, beside what is asked of all.
func asks() map[int]func(*judge, api.Event) bool {
	return map[int]func(*judge, api.Event) bool{
		api.EBegin: mayBegin,
		api.EGo:    mayGo,
		api.ESend:  mayCome,
		api.ESent:  maySent,
		api.ERecv:  mayCome,
		api.EGot:   mayGot,
		api.ENone:  mayNone,
		api.EClose: mayClose,
		api.ESelect: func(_ *judge, e api.Event) bool {
			return bare(e) && below(e.Obj, selects)
		},
		api.EDefault: func(j *judge, e api.Event) bool {
			return e.No == 0 && below(e.Obj, selects) && j.ends(e, api.ESelect)
		},
		api.ELock: func(_ *judge, e api.Event) bool {
			return bare(e) && below(e.Obj, mutexes)
		},
		api.ELocked: mayLocked,
		api.EUnlock: mayUnlock,
		api.EDo: func(_ *judge, e api.Event) bool {
			return bare(e) && below(e.Obj, onces)
		},
		api.EEnd:   mayEnd,
		api.ESkip:  maySkip,
		api.ERead:  mayAccess,
		api.EWrite: mayAccess,
	}
}

// bare tells whether an event begins something by itself.
func bare(e api.Event) bool { return e.Start == api.NoOne && e.No == 0 }

// ends tells whether an event ends what its goroutine began last, by a kind.
func (j *judge) ends(e api.Event, kind int) bool {
	return e.Start >= 0 && e.Start == j.last[e.G] && j.ahead[e.Start].Kind == kind && j.ahead[e.Start].Obj == e.Obj
}

// passes tells whether an event ends a send or a receive, by a kind or by a select, of a channel that is none that is nil.
func (j *judge) passes(e api.Event, kind int) bool {
	if !j.open(e) {
		return false
	}
	last := j.last[e.G]
	return j.ends(e, kind) || e.Start >= 0 && e.Start == last && j.ahead[last].Kind == api.ESelect
}

// open tells whether an event is of a channel, and that one is not nil.
func (j *judge) open(e api.Event) bool {
	return below(e.Obj, len(j.caps)) && j.caps[e.Obj] >= 0
}

func mayBegin(j *judge, e api.Event) bool {
	if e.Obj != 0 || e.No != 0 {
		return false
	}
	if e.G == 0 {
		return e.Start == api.NoOne
	}
	return e.Start >= 0 && j.ahead[e.Start].Kind == api.EGo && j.ahead[e.Start].Obj == e.G
}

func mayGo(j *judge, e api.Event) bool {
	return bare(e) && e.Obj == j.counted(api.EBegin, 0)
}

// mayCome is asked of a send and a receive that begin: they may wait at a channel that is nil, too.
func mayCome(j *judge, e api.Event) bool {
	return bare(e) && below(e.Obj, len(j.caps))
}

func maySent(j *judge, e api.Event) bool {
	if !j.passes(e, api.ESend) || j.counted(api.EClose, e.Obj) > 0 {
		return false
	}
	return e.No == j.counted(api.ESent, e.Obj) && e.No <= j.counted(api.EGot, e.Obj)+j.caps[e.Obj]
}

func mayGot(j *judge, e api.Event) bool {
	return j.passes(e, api.ERecv) && e.No == j.counted(api.EGot, e.Obj) && e.No <= j.counted(api.ESent, e.Obj)
}

func mayNone(j *judge, e api.Event) bool {
	if !j.passes(e, api.ERecv) || e.No != 0 || j.counted(api.EClose, e.Obj) == 0 {
		return false
	}
	return j.counted(api.EGot, e.Obj) == j.counted(api.ESent, e.Obj)
}

func mayClose(j *judge, e api.Event) bool {
	return bare(e) && j.open(e) && j.counted(api.EClose, e.Obj) == 0
}

func mayLocked(j *judge, e api.Event) bool {
	if e.No != 0 || !below(e.Obj, mutexes) || !j.ends(e, api.ELock) {
		return false
	}
	return j.counted(api.EUnlock, e.Obj) == j.counted(api.ELocked, e.Obj)
}

func mayUnlock(j *judge, e api.Event) bool {
	return bare(e) && below(e.Obj, mutexes) && j.counted(api.ELocked, e.Obj) == j.counted(api.EUnlock, e.Obj)+1
}

func mayEnd(j *judge, e api.Event) bool {
	if !bare(e) || !below(e.Obj, onces) || j.counted(api.EEnd, e.Obj) > 0 {
		return false
	}
	return j.counted(api.EDo, e.Obj) > 0 && j.doer[e.Obj] == e.G
}

func maySkip(j *judge, e api.Event) bool {
	return e.No == 0 && below(e.Obj, onces) && j.ends(e, api.EDo) && j.counted(api.EEnd, e.Obj) > 0
}

func mayAccess(_ *judge, e api.Event) bool {
	return bare(e) && below(e.Obj, variables)
}
