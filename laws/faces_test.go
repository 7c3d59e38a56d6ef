package laws

import "signalbroker/crc"

// faces returns the functions of the layers that have landed.
func faces() []face {
	return []face{
		{name: "crc.Sum", f: crc.Sum},
		{name: "crc.Update", f: crc.Update},
	}
}
