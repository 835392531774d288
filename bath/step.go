package bath

import "armature/api"

// Do returns the vat after a step.
func Do(v api.Vat, s api.Step) (api.Vat, api.Errno) {
	if !ValidVat(v) || !validStep(s) {
		return api.Vat{}, api.ErrInvalid
	}
	return afterStep(v, s)
}

// Run returns the vat after some steps, and how many were done: those before the first one that is refused.
func Run(v api.Vat, l []api.Step) (api.Vat, int, api.Errno) {
	if !ValidVat(v) || !ValidSteps(l) {
		return api.Vat{}, 0, api.ErrInvalid
	}
	for i, s := range l {
		next, e := afterStep(v, s)
		if e != api.OK {
			return api.Vat{}, i, e
		}
		v = next
	}
	return v, len(l), api.OK
}

// Put returns what steps add to a bath, all together and however much.
func Put(l []api.Step) (api.Bath, api.Errno) {
	if !ValidSteps(l) {
		return api.Bath{}, api.ErrInvalid
	}
	var put api.Bath
	for _, s := range l {
		switch s.Kind {
		case api.SWater:
			put.Water += s.N
		case api.SSalt:
			put.Salt += s.N
		case api.SAcid:
			put.Acid += s.N
		}
	}
	return put, api.OK
}

// Hours returns how many hours steps wait.
func Hours(l []api.Step) (int, api.Errno) {
	if !ValidSteps(l) {
		return 0, api.ErrInvalid
	}
	hours := 0
	for _, s := range l {
		if s.Kind == api.SWait {
			hours += s.N
		}
	}
	return hours, api.OK
}

func validStep(s api.Step) bool {
	switch s.Kind {
	case api.SWait:
		return within(maxWait, s.N)
	case api.SPour:
		return within(whole, s.N)
	case api.SWater, api.SSalt, api.SAcid, api.SLime:
		return within(api.MaxGrain, s.N)
	}
	return false
}

func afterStep(v api.Vat, s api.Step) (api.Vat, api.Errno) {
	doings()[s.Kind](&v, s.N)
	if !ValidVat(v) {
		return api.Vat{}, api.ErrLimit
	}
	return v, api.OK
}

// doings returns what each kind of step does.
func doings() [api.SPour + 1]func(v *api.Vat, n int) {
	return [...]func(v *api.Vat, n int){
		api.SWait:  wait,
		api.SWater: func(v *api.Vat, n int) { v.Bath.Water += n },
		api.SSalt:  func(v *api.Vat, n int) { v.Bath.Salt += n },
		api.SAcid:  func(v *api.Vat, n int) { v.Bath.Acid += n },
		api.SLime:  lime,
		api.SPour:  pour,
	}
}

func wait(v *api.Vat, n int) {
	for _, now := range hourly(*v, n) {
		*v = now
	}
}

func lime(v *api.Vat, n int) {
	undone := min(n, v.Bath.Acid)
	v.Bath.Acid -= undone
	v.Gone.Acid += undone
}

func pour(v *api.Vat, n int) {
	poured, rest := parted(v.Bath, n)
	v.Bath = rest
	v.Gone = sum(v.Gone, poured)
}
