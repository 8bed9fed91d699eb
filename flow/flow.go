// Package flow: rules: how they are written, what they match, which goes first, and by which entries they can be said: see DOC.md.
package flow

import "sluice/api"

// Match tells whether a rule speaks of a packet (P5).
func Match(s string, h api.Header) (bool, api.Errno) { return false, api.OK }

// Compare tells which of two rules goes first (P6).
func Compare(a string, b string) (int, api.Errno) { return 0, api.OK }

// Count tells how many cubes a rule has (P7).
func Count(s string) (int, api.Errno) { return 0, api.OK }

// Cubes tells a rule's cubes (P7).
func Cubes(s string) ([]string, api.Errno) { return nil, api.OK }
