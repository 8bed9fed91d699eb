// Package flow: rules: how they are written, what they match, which goes first, and by which entries they can be said: see DOC.md.
package flow
