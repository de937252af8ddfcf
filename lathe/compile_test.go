package lathe

import (
	"strings"
	"testing"

	"lathe/api"
)

// right are texts that Compile takes.
var right = []string{
	// No forms, and what stands between pieces.
	"", " ", "\n", ";", "; (", "; \x00 \xff é A\n", "1;2", "(f ; )\n)", "a;\n;\nb",
	// What is itself, and variables.
	"0", "-0", "7", "-5", "123456789012345678", "-123456789012345678", "000000000000000000", "#t", "#f", "#t #f",
	"x", "-", "+", "-5a", "--5", "+5", "-1-", "a1+-*/<>=?!", "call/cc", "ifs", "-if", "define!",
	"1(f)2'a'b", "a'b", "(f'a)",
	// quote, of any datum.
	"'a", "''a", "'()", "'if", "'(lambda (x x))", "(quote a)", "(quote (if))", "(quote quote)", "'(quote)", "' ; \n a",
	// The other forms.
	"(if 1 2)", "(if 1 2 3)", "(if (if 1 2) (if 3 4) (if 5 6))",
	"(define x 1)", "(define x (define y 1))", "(define (f) 1)", "(define (f x y) 1 2)", "(define (f f) f)", "(define - 1)",
	"(set! x 1)", "(set! x (set! y 1))",
	"(lambda () 1)", "(lambda (x) x)", "(lambda (x y z) 1 2 3)", "(lambda (x) (lambda (x) x))",
	"(begin 1)", "(begin 1 2 3)", "(begin (begin 1))",
	"(let () 1)", "(let ((x 1)) x)", "(let ((x 1) (y x)) x y)", "(let ((x (let () 1))) (let ((x x)) x))",
	"(f)", "(f 1 'a #t)", "((f))", "((lambda (x) x) 1)", "(1 2)", "(#f)", "('if)", "(f (define x 1) (set! x 2))",
	"((if 1 f) (begin 2))",
}

// wrong are texts of one form that is no expression.
var wrong = []string{
	// An empty list.
	"()", "(f ())", "(())",
	// A keyword alone.
	"quote", "if", "define", "set!", "lambda", "begin", "let", "(f if)", "(f 1 quote)",
	// Too few parts, or too many.
	"(quote)", "(quote a b)", "(if)", "(if 1)", "(if 1 2 3 4)",
	"(define)", "(define x)", "(define x 1 2)", "(define (f))", "(define (f x))",
	"(set!)", "(set! x)", "(set! x 1 2)",
	"(lambda)", "(lambda (x))", "(lambda ())", "(begin)",
	"(let)", "(let ())", "(let ((x 1)))", "(let (()) 1)", "(let ((x)) 1)", "(let ((x 1 2)) 1)",
	// What should be a variable and is none.
	"(define 1 2)", "(define #t 2)", "(define 'x 1)", "(define () 1)", "(define (1) 2)", "(define ((f) x) 1)",
	"(define (f 1) 2)", "(define (f (x)) 2)", "(define ('f) 1)",
	"(set! 1 2)", "(set! (x) 2)", "(set! () 2)", "(set! 'x 2)",
	"(lambda x 1)", "(lambda 1 1)", "(lambda (1) 1)", "(lambda (x #f) 1)", "(lambda ((x)) 1)", "(lambda (()) 1)", "(lambda 'x 1)",
	"(let x 1)", "(let 1 1)", "(let (x) 1)", "(let (1) 1)", "(let ((1 2)) 1)", "(let (((x) 2)) 1)", "(let ('x) 1)", "(let 'x 1)",
	"(let x ((y 1)) 1)",
	// A keyword where a variable should be.
	"(define if 1)", "(define (let) 1)", "(define (f begin) 1)", "(set! define 1)", "(lambda (set!) 1)",
	"(lambda (x lambda) 1)", "(let ((quote 1)) 1)",
	// Two of the same variables.
	"(define (f x x) 1)", "(lambda (x x) 1)", "(lambda (x y x) 1)", "(let ((x 1) (x 2)) 1)",
}

// around are right forms with one expression missing, where @ is.
var around = []string{
	"@", "(f @)", "(@)", "(@ 1)", "(f 1 @ 2)", "(if @ 1)", "(if 1 @)", "(if 1 2 @)", "(define x @)", "(set! x @)",
	"(define (f) @)", "(define (f) @ 1)", "(define (f x) 1 @)", "(lambda () @)", "(lambda (x) 1 @ 2)",
	"(begin @)", "(begin 1 @)", "(let () @)", "(let ((x 1)) 1 @)", "(let ((x @)) 1)", "(let ((x 1) (y @)) 1)",
	"((lambda (x) (f (if 1 @))) 1)",
}

func compiles(t *testing.T, text string) {
	t.Helper()
	if c, e, at := Compile(text); c == nil || e != api.OK || at != 0 {
		t.Errorf("P3: Compile(%q) = %v, %d, %d, want a code", text, c, e, at)
	}
}

func fails(t *testing.T, text string, want api.Errno, place int) {
	t.Helper()
	if c, e, at := Compile(text); c != nil || e != want || at != place {
		t.Errorf("P3: Compile(%q) = %v, %d, %d, want %d, %d", text, c, e, at, want, place)
	}
}

func TestRightTexts(t *testing.T) {
	for _, text := range right {
		compiles(t, text)
	}
	compiles(t, strings.Join(right[len(right)-20:], "\n"))
}

func TestRightWithinForms(t *testing.T) {
	for _, text := range right {
		if strings.HasPrefix(text, "(") && !strings.Contains(text, ";") {
			for _, form := range around {
				compiles(t, strings.ReplaceAll(form, "@", text))
			}
		}
	}
}

func TestSize(t *testing.T) {
	compiles(t, strings.Repeat(" ", api.MaxText))
	compiles(t, strings.Repeat("1 ", api.MaxText/2))
	compiles(t, strings.Repeat("a", api.MaxText))
	for _, unit := range []string{" ", "a", "(", ")", "'", "A", ";"} {
		fails(t, strings.Repeat(unit, api.MaxText+1), api.ErrSize, api.MaxText)
		fails(t, strings.Repeat(unit, 5*api.MaxText), api.ErrSize, api.MaxText)
	}
	fails(t, strings.Repeat(" ", api.MaxText-1)+"A", api.ErrSyntax, api.MaxText-1)
	fails(t, strings.Repeat(" ", api.MaxText-1)+"(", api.ErrSyntax, api.MaxText)
}

func TestCantStandAnywhere(t *testing.T) {
	for _, token := range []string{"1a", "1-", "0x", "5+5", "#", "#x", "##", "#tt", "#t#f", "a#", "-#", "-5#", "1#t",
		"1234567890123456789", "-1234567890123456789", "0000000000000000000"} {
		fails(t, token, api.ErrSyntax, 0)
		fails(t, "(f '"+token+")", api.ErrSyntax, 4)
		fails(t, "'a "+token, api.ErrSyntax, 3)
	}
	fails(t, "aB", api.ErrSyntax, 1)
	fails(t, "(1 . 2)", api.ErrSyntax, 3)
	fails(t, "; a\n\"b\"", api.ErrSyntax, 4)
	fails(t, "(f é)", api.ErrSyntax, 3)
	fails(t, "'\t", api.ErrSyntax, 1)
}

func TestEachByte(t *testing.T) {
	const fit = "abcdefghijklmnopqrstuvwxyz0123456789+-*/<>=?!"
	for b := range 256 {
		s := string([]byte{byte(b)})
		compiles(t, "f;"+s+"\n1")
		switch {
		case strings.Contains(fit+" \n;'", s):
			compiles(t, "(f a"+s+"\n1)")
		case s == "(":
			fails(t, "(f a(\n1)", api.ErrSyntax, 8)
		case s == ")":
			fails(t, "(f a)\n1)", api.ErrSyntax, 7)
		case s == "#":
			fails(t, "(f a#\n1)", api.ErrSyntax, 3)
		default:
			fails(t, "(f a"+s+"\n1)", api.ErrSyntax, 4)
		}
	}
}

func TestBrackets(t *testing.T) {
	// A ) that closes nothing.
	fails(t, ")", api.ErrSyntax, 0)
	fails(t, "a )", api.ErrSyntax, 2)
	fails(t, "(f))", api.ErrSyntax, 3)
	fails(t, "(f) ; (\n)", api.ErrSyntax, 8)
	// A list that is not closed.
	fails(t, "(", api.ErrSyntax, 1)
	fails(t, "((f)", api.ErrSyntax, 4)
	fails(t, "(f ; )", api.ErrSyntax, 6)
	fails(t, "'(a \n", api.ErrSyntax, 5)
	// A ' with nothing behind it.
	fails(t, "'", api.ErrSyntax, 1)
	fails(t, "a ''", api.ErrSyntax, 4)
	fails(t, "' ; a\n", api.ErrSyntax, 6)
	fails(t, "(f '", api.ErrSyntax, 4)
	// The same, because a ) comes.
	fails(t, "')", api.ErrSyntax, 1)
	fails(t, "(')", api.ErrSyntax, 2)
	fails(t, "(a ' )", api.ErrSyntax, 5)
	fails(t, "(a '' ; b\n ) (", api.ErrSyntax, 11)
}

func TestNest(t *testing.T) {
	times := strings.Repeat
	compiles(t, times("(", 20)+"f"+times(")", 20))
	compiles(t, times("'", 20)+"a")
	compiles(t, times("'(", 10)+times(")", 10))
	compiles(t, times("(f ", 19)+times("'a ", 20)+"(g) (g)"+times(")", 19))
	compiles(t, times("''a ", 30))
	fails(t, times("(", 21), api.ErrNest, 20)
	fails(t, times("'", 21), api.ErrNest, 20)
	fails(t, times("'", 21)+"a", api.ErrNest, 20)
	fails(t, times("'(", 10)+"(", api.ErrNest, 20)
	fails(t, times("'(", 10)+"'a", api.ErrNest, 20)
	fails(t, times("(", 20)+"f (g)"+times(")", 20), api.ErrNest, 22)
	fails(t, times("(a ", 20)+"'a", api.ErrNest, 60)
	// What is closed, or has its datum, is open no more.
	fails(t, times("(", 20)+")((", api.ErrNest, 22)
	fails(t, times("(", 19)+"'a '' b", api.ErrNest, 23)
	fails(t, times("'", 19)+"(a) "+times("(", 21), api.ErrNest, 43)
}

func TestFirstOfTheseCounts(t *testing.T) {
	deep := strings.Repeat("(", 20)
	fails(t, deep+"A(", api.ErrSyntax, 20)
	fails(t, deep+"(A", api.ErrNest, 20)
	fails(t, deep+"')", api.ErrNest, 20)
	fails(t, ") "+deep+"(", api.ErrSyntax, 0)
	fails(t, "(') A", api.ErrSyntax, 2)
	fails(t, "(A')", api.ErrSyntax, 1)
	fails(t, "( A", api.ErrSyntax, 2)
	fails(t, "1a )", api.ErrSyntax, 0)
	fails(t, "1aB", api.ErrSyntax, 0)
	// Any of them comes ahead of ErrForm.
	fails(t, "(if) A", api.ErrSyntax, 5)
	fails(t, "() (", api.ErrSyntax, 4)
	fails(t, "if )", api.ErrSyntax, 3)
	fails(t, "() "+deep+"(", api.ErrNest, 23)
}

func TestNoExpression(t *testing.T) {
	for _, text := range wrong {
		fails(t, text, api.ErrForm, 0)
		for _, form := range around {
			if !strings.HasPrefix(text, "(") && strings.HasPrefix(form, "(@") {
				continue // first in a list, a keyword makes a form
			}
			fails(t, strings.ReplaceAll(form, "@", text), api.ErrForm, 0)
		}
		compiles(t, "'"+text)
	}
}

func TestNumberOfTheForm(t *testing.T) {
	for i := range 5 {
		for _, text := range wrong {
			fails(t, strings.Repeat("(f 'if) ", i)+text+" 1 "+wrong[0], api.ErrForm, i)
		}
	}
	fails(t, strings.Repeat("1 ", 499)+"if", api.ErrForm, 499)
	fails(t, "'if (lambda () ()) if", api.ErrForm, 1)
}

// Example 8.
func TestExampleOfCompile(t *testing.T) {
	fails(t, "(", api.ErrSyntax, 1)
	fails(t, ")", api.ErrSyntax, 0)
	fails(t, "(')", api.ErrSyntax, 2)
	fails(t, "1a", api.ErrSyntax, 0)
	fails(t, "#x", api.ErrSyntax, 0)
	fails(t, "A", api.ErrSyntax, 0)
	fails(t, "()", api.ErrForm, 0)
	fails(t, "1 (if)", api.ErrForm, 1)
	fails(t, "lambda", api.ErrForm, 0)
	fails(t, "(lambda (x x) 1)", api.ErrForm, 0)
	fails(t, "(define if 1)", api.ErrForm, 0)
	compiles(t, "-5")
	compiles(t, "-")
	compiles(t, "-5a")
	// Only a variable can be set.
	fails(t, "(set! -5 1)", api.ErrForm, 0)
	compiles(t, "(set! - 1)")
	compiles(t, "(set! -5a 1)")
}
