package setting

import (
	"reveille/api"
	"reveille/span"
)

const (
	sectionUnit    = "Unit"
	sectionService = "Service"
	sectionSocket  = "Socket"
	sectionTimer   = "Timer"
	sectionPath    = "Path"
	sectionMount   = "Mount"
)

// ownSection: the section that counts for units of a kind alone; empty, as no section's name is, if there is none.
func ownSection(kind int) string {
	switch kind {
	case api.Service:
		return sectionService
	case api.Socket:
		return sectionSocket
	case api.Timer:
		return sectionTimer
	case api.Path:
		return sectionPath
	case api.Mount:
		return sectionMount
	}
	return ""
}

// take lays what a setting tells into u; a key that isn't known tells nothing, whatever its value is.
func take(u *api.Unit, s api.Setting) api.Errno {
	v := value{text: s.Value, unit: u.Name}
	switch s.Section {
	case sectionUnit:
		return takeOfUnit(u, s.Key, v)
	case sectionService:
		return takeOfService(u, s.Key, v)
	case sectionSocket:
		return takeOfSocket(u, s.Key, v)
	case sectionTimer:
		return takeOfTimer(u, s.Key, v)
	case sectionPath:
		return takeOfPath(u, s.Key, v)
	case sectionMount:
		return takeOfMount(u, s.Key, v)
	}
	return api.OK
}

func takeOfUnit(u *api.Unit, key string, v value) api.Errno {
	switch key {
	case "Wants":
		return add(&u.Wants, v, asNames)
	case "Requires":
		return add(&u.Requires, v, asNames)
	case "BindsTo":
		return add(&u.BindsTo, v, asNames)
	case "PartOf":
		return add(&u.PartOf, v, asNames)
	case "Conflicts":
		return add(&u.Conflicts, v, asNames)
	case "After":
		return add(&u.After, v, asNames)
	case "Before":
		return add(&u.Before, v, asNames)
	case "DefaultDependencies":
		return read(&u.Plain, v, asDenial)
	}
	return api.OK
}

func takeOfService(u *api.Unit, key string, v value) api.Errno {
	switch key {
	case "Type":
		return read(&u.Type, v, asType)
	case "ExecStartPre":
		return add(&u.Pre, v, asCommand)
	case "ExecStart":
		return add(&u.Start, v, asCommand)
	case "ExecStop":
		return add(&u.Stop, v, asCommand)
	case "Restart":
		return read(&u.Restart, v, asRestart)
	case "RestartSec":
		return read(&u.RestartSec, v, span.Parse)
	case "TimeoutStartSec":
		return read(&u.StartSec, v, span.Parse)
	case "TimeoutStopSec":
		return read(&u.StopSec, v, span.Parse)
	case "WatchdogSec":
		return read(&u.Watchdog, v, asWatchdog)
	case "StartLimitIntervalSec":
		return read(&u.Interval, v, span.Parse)
	case "StartLimitBurst":
		return read(&u.Burst, v, only(asNumber, isBurst))
	case "KillMode":
		return read(&u.KillMode, v, asKillMode)
	case "RemainAfterExit":
		return read(&u.Remain, v, asTruth)
	}
	return api.OK
}

func takeOfSocket(u *api.Unit, key string, v value) api.Errno {
	switch key {
	case "ListenStream":
		return read(&u.Listen, v, only(asWord, isShort))
	case "Service":
		return read(&u.Target, v, only(asWord, isService))
	}
	return api.OK
}

func takeOfTimer(u *api.Unit, key string, v value) api.Errno {
	switch key {
	case "OnBootSec":
		return read(&u.Boot, v, span.Parse)
	case "OnUnitActiveSec":
		return read(&u.Active, v, span.Parse)
	case "OnCalendar":
		return add(&u.Calendars, v, asCalendar)
	case "Unit":
		return read(&u.Target, v, asName)
	}
	return api.OK
}

func takeOfPath(u *api.Unit, key string, v value) api.Errno {
	switch key {
	case "PathExists":
		return add(&u.Exists, v, asPaths)
	case "PathChanged":
		return add(&u.Changed, v, asPaths)
	case "Unit":
		return read(&u.Target, v, asName)
	}
	return api.OK
}

func takeOfMount(u *api.Unit, key string, v value) api.Errno {
	switch key {
	case "What":
		return read(&u.What, v, only(asWord, isShort))
	case "Where":
		return read(&u.Where, v, only(only(asWord, isShort), isPath))
	}
	return api.OK
}
