/- One number in all enclosures of each constant: the kernel reckons. -/
import Derived.Test.YtfnklkdbieikeaaGreatDoorCpM
namespace Go.Proofs.YtfnklkdbieikeaaGreatDoor
open Go.RowKit
set_option linter.unusedVariables false
set_option linter.unusedSimpArgs false
set_option maxRecDepth 100000
attribute [local go_sem ↓] Go.wp_at_zero Go.wp_at_succ

/-- The program's sums, of the parts with their factors. -/
def pt1 (c : Int) (p : Nat → Int × Int) (v : Nat) : Option Int := match smP p 600 0 (2 ^ v) 0 with
  | none => none
  | some a => some (a * c)
def add2 : Option Int → Option Int → Option Int
  | some a, some b => some (a + b)
  | _, _ => none
def piT (v : Nat) : Option Int := add2 (pt1 16 (tnP 5 1) v) (pt1 (-4) (tnP 239 1) v)
def exT (v : Nat) : Option Int := pt1 1 (exP 1) v
def lnT (v : Nat) : Option Int := add2 (add2 (pt1 18 (tnP 26 (-1)) v) (pt1 (-2) (tnP 4801 (-1)) v)) (pt1 8 (tnP 8749 (-1)) v)
/-- The constants in units of 2^-500. -/
def cPi : Int := 10283659886096346733263384151503756861634764969113587550194014914087843208563500712840304045958917565049748851786214229816233622223046670298426214405232
def cEx : Int := 8897998206892590118594630598385291834738537685687162240174487054240339731925796280128172478556695976546274616900025096778368205010686690869973160918873
def cLn : Int := 2268941470734616186861435708167256132234041358636494052997072697895108538484637608683501933121951412824912851708240389810467206005511724841255000151707
def inP (c : Int) (k : Nat) : Option Int → Bool
  | none => false
  | some T => decide (loC T * 2 ^ (500 - k) ≤ c) && decide (c ≤ hiC T * 2 ^ (500 - k))
def inR (c : Int) (k : Nat) (a b : Int) : Bool := decide (a / 1048576 * 2 ^ (480 - k) ≤ c) && decide (c ≤ cdv b 1048576 * 2 ^ (480 - k))

theorem pi_all : (List.range 400).all (fun k => inP cPi k (piT (k + 32))) = true := by decide +kernel
theorem pi_ref : (List.range 300).all (fun k => inR cPi k (piL (k + 40)) (piH (k + 40))) = true := by decide +kernel
theorem ex_all : (List.range 400).all (fun k => inP cEx k (exT (k + 32))) = true := by decide +kernel
theorem ex_ref : (List.range 300).all (fun k => inR cEx k (exL (k + 40)) (exH (k + 40))) = true := by decide +kernel
theorem ln_all : (List.range 400).all (fun k => inP cLn k (lnT (k + 32))) = true := by decide +kernel
theorem ln_ref : (List.range 300).all (fun k => inR cLn k (lnL (k + 40)) (lnH (k + 40))) = true := by decide +kernel

end Go.Proofs.YtfnklkdbieikeaaGreatDoor
