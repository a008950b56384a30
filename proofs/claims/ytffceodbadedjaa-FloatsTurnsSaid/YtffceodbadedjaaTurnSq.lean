/-
  The root of a square of a number below 4096 is the number, in both formats: by running Ieee's own product and root.
-/
import Derived.Test.YtffceodbadedjaaFBin
import Derived.Test.YtffceodbadedjaaFUnA
set_option linter.unusedSimpArgs false
set_option linter.unusedVariables false
namespace Go.Proofs.Ytffceodbadedjaa
open Ieee

def sq32 (k : Nat) : Bool :=
  let F := single.word false (rungR single k 0 false)
  decide (F < 4294967296) && (unW single 2147483648 2139095040 2143289344 3 (binW single 38 2147483648 2139095040 2143289344 23 (-149) 3 (F % 4294967296) (F % 4294967296) % 4294967296) == F) && decide (binW single 38 2147483648 2139095040 2143289344 23 (-149) 3 (F % 4294967296) (F % 4294967296) < 4294967296)
def sq64 (k : Nat) : Bool :=
  let F := double.word false (rungR double k 0 false)
  decide (F < 18446744073709551616) && (unW double 9223372036854775808 9218868437227405312 9221120237041090560 3 (binW double 9 9223372036854775808 9218868437227405312 9221120237041090560 52 (-1074) 3 (F % 18446744073709551616) (F % 18446744073709551616) % 18446744073709551616) == F) && decide (binW double 9 9223372036854775808 9218868437227405312 9221120237041090560 52 (-1074) 3 (F % 18446744073709551616) (F % 18446744073709551616) < 18446744073709551616)
theorem sq_32 : ∀ j, j < 64 → ∀ i, i < 64 → sq32 (64 * j + i) = true := by decide +kernel
theorem sq_64 : ∀ j, j < 64 → ∀ i, i < 64 → sq64 (64 * j + i) = true := by decide +kernel
end Go.Proofs.Ytffceodbadedjaa
