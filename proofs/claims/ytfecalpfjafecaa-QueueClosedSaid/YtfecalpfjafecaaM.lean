/- Plain arithmetic for this seat: quotients, numbers of 128 bits as two halves. No program text in sight. -/
namespace Go.Proofs.Ytfecalpfjafecaa


/-- The halves of a number of 128 bits. -/
def hi (x : Int) : Int := x / 18446744073709551616
def lo (x : Int) : Int := x % 18446744073709551616
theorem hl (x : Int) : hi x * 18446744073709551616 + lo x = x := by unfold hi lo; omega
end Go.Proofs.Ytfecalpfjafecaa
