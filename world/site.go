package world

import (
	"purser/api"
	"purser/audit"
	"purser/disk"
	"purser/image"
	"purser/store"
)

// site is where a script happens: a disk, the store on it, and what came of all so far.
type site struct {
	config store.Config
	disk   *disk.Disk
	store  *store.Store
	report Report
}

// begin answers the site of a new store.
func begin(c store.Config) (*site, api.Errno) {
	// What is no config needs no sectors, and there is no such disk.
	d, err := disk.New(store.Sectors(c))
	if err != api.OK {
		return nil, err
	}
	s, err := store.Format(d, c)
	if err != api.OK {
		return nil, err
	}
	return &site{config: c, disk: d, store: s}, api.OK
}

// happen lets an event happen, keeps its answer, and lets the auditor look at what came of it.
func (w *site) happen(e Event) api.Errno {
	answer, err := w.do(e)
	if err != api.OK {
		return err
	}
	w.report.Answers = append(w.report.Answers, answer)
	// What is in a server without power was never answered.
	if !w.disk.Off() {
		w.report.Findings += len(audit.Look(w.store.Server().Ledger()))
	}
	return api.OK
}

// do does what an event's kind asks for, and answers the event's answer.
func (w *site) do(e Event) ([]byte, api.Errno) {
	switch e.Kind {
	case Ask:
		return w.store.Do(e.Bytes), api.OK
	case Tick:
		_, err := w.store.Tick()
		return []byte{byte(err)}, api.OK
	case Cut:
		w.disk.Cut(e.N)
	case Crash:
		w.report.Crashes++
		return nil, w.crash(e.Kept)
	case Compact:
		return []byte{byte(w.store.Compact())}, api.OK
	}
	return nil, api.OK
}

// crash lets the disk crash, and opens what stands there behind that.
func (w *site) crash(kept []bool) api.Errno {
	w.disk.Crash(kept)
	s, err := store.Open(w.disk, w.config)
	if err != api.OK {
		return api.ErrFalse
	}
	w.store = s
	return api.OK
}

// end answers what came of all, with the power on.
func (w *site) end() (Report, api.Errno) {
	if w.disk.Off() {
		if err := w.crash(nil); err != api.OK {
			return Report{}, err
		}
	}
	b, err := image.Pack(w.store.Server())
	if err != api.OK {
		return Report{}, err
	}
	w.report.Image = b
	return w.report, api.OK
}
