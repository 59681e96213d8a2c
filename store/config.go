package store

import (
	"purser/api"
	"purser/disk"
	"purser/ledger"
)

// Config is a ledger's, and how many sectors a slot of images has, and the log.
type Config struct {
	Ledger    ledger.Config
	Slot, Log int
}

// slotsAt is the first sector of the slots of images.
const slotsAt = 0

// Sectors answers how many sectors all needs; 0 of what is no config.
func Sectors(c Config) int {
	// Each part is asked alone first: the sum of all may be no int.
	if ledger.Check(c.Ledger) != api.OK || !isSize(c.Slot) || !isSize(c.Log) {
		return 0
	}
	if sectors := c.logAt() + c.Log; isSize(sectors) {
		return sectors
	}
	return 0
}

// isSize says whether a part of a disk, or all of it, may have so many sectors.
func isSize(sectors int) bool {
	return sectors >= 1 && sectors <= api.MaxSectors
}

// logAt answers the log's first sector: it stands behind both slots.
func (c Config) logAt() int {
	return slotsAt + 2*c.Slot
}

// isOn says whether there can be a store of this config on a disk.
func (c Config) isOn(d *disk.Disk) bool {
	sectors := Sectors(c)
	return d != nil && sectors > 0 && sectors <= d.Size()
}
