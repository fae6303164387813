package manifest

import (
	"strconv"
	"strings"

	"footman/api"
)

func text(m api.Manifest) string {
	var s strings.Builder
	put(&s, "quantum", strconv.Itoa(m.Quantum))
	for _, name := range m.Tasks {
		put(&s, "task", name)
	}
	for _, b := range m.Boxes {
		put(&s, "mailbox", b.Name, b.From, b.To, strconv.Itoa(b.Cap), label(b.Secret))
	}
	for _, k := range m.Keys {
		put(&s, "key", k.Name, k.Owner)
	}
	return s.String()
}

// put writes a line of parts.
func put(s *strings.Builder, parts ...string) {
	s.WriteString(strings.Join(parts, " "))
	s.WriteByte('\n')
}

func label(secret bool) string {
	if secret {
		return "secret"
	}
	return "public"
}
