package expr_test

import (
	"scholiast/expr"
	"scholiast/probe"
)

// procedure is what reads a part.
type procedure = func(r *expr.Reader)

// reads is a text, and the node that it is.
type reads = probe.Reads

// head reads an expression as the head of a statement has it.
func head(r *expr.Reader) { r.X(true) }

// inside reads an expression as it stands in parentheses.
func inside(r *expr.Reader) { r.X(false) }
