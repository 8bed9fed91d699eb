// Package flow: rules: how they are written, what they match, which goes first, and by which entries they can be said: see DOC.md.
package flow

import "sluice/api"

// Count tells how many cubes a rule has (P7).
func Count(s string) (int, api.Errno) { return 0, api.OK }

// Cubes tells a rule's cubes (P7).
func Cubes(s string) ([]string, api.Errno) { return nil, api.OK }
