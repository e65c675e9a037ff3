/- Hexadecimal texts. -/
import Derived.Test.YtpgiolbnmlbjbaaGreatDoorTrim
namespace Go.Proofs.YtpgiolbnmlbjbaaGreatDoor
open Go.RowKit
set_option linter.unusedVariables false
set_option linter.unusedSimpArgs false
set_option maxRecDepth 100000

def hexd (d : Nat) : Nat := if d < 10 then 48 + d else 87 + d
def lh : Nat → Nat → List Nat
  | 0, _ => []
  | k + 1, x => hexd (x % 16) :: lh k (x / 16)
/-- The text of a number. -/
def hexT (x : Nat) : List Nat := (lh 16 x).reverse
def isH (c : Nat) : Bool := decide (0 ≤ hix c)
def unh (l : List Nat) : Nat := l.foldl (fun a c => 16 * a + (hix c).toNat) 0
def okH (l : List Nat) : Bool := decide (l.length = 16) && l.all isH
def errH (l : List Nat) : Int := if okH l then 0 else 6
def valH (l : List Nat) : Nat := if okH l then unh l else 0
theorem hexd_lt {d : Nat} (h : d < 16) : hexd d < 256 := by unfold hexd; split <;> omega
theorem hix_hexd {d : Nat} (h : d < 16) : hix (hexd d) = (d : Int) := by
  have : ∀ d : Nat, d < 16 → hix (hexd d) = (d : Int) := by decide
  exact this d h
theorem hix_lt (c : Nat) : hix c < 16 := by unfold hix; split <;> (try split) <;> omega
theorem hix_ge (c : Nat) : -1 ≤ hix c := by unfold hix; split <;> (try split) <;> omega
theorem lh_length : ∀ (k x : Nat), (lh k x).length = k
  | 0, _ => rfl
  | k + 1, x => by rw [lh, List.length_cons, lh_length k]
theorem lh_snoc : ∀ (k x : Nat), lh (k + 1) x = lh k x ++ [hexd (x / 16 ^ k % 16)]
  | 0, x => by rw [lh, lh, lh, Nat.pow_zero, Nat.div_one]; rfl
  | k + 1, x => by
    rw [lh, lh_snoc k, lh, List.cons_append, Nat.div_div_eq_div_mul, Nat.pow_succ, Nat.mul_comm 16]
theorem lh_byt : ∀ (k x : Nat), Byt (lh k x)
  | 0, _ => byt_nil
  | k + 1, x => by rw [lh]; exact byt_cons (hexd_lt (Nat.mod_lt _ (by decide))) (lh_byt k _)
theorem hexT_byt (x : Nat) : Byt (hexT x) := byt_reverse (lh_byt 16 x)
theorem hexT_length (x : Nat) : (hexT x).length = 16 := by unfold hexT; rw [List.length_reverse, lh_length]
theorem unh_snoc (l : List Nat) (c : Nat) : unh (l ++ [c]) = 16 * unh l + (hix c).toNat := by unfold unh; rw [List.foldl_append]; rfl
theorem unh_lh : ∀ (k x : Nat), x < 16 ^ k → unh (lh k x).reverse = x
  | 0, x, h => by rw [Nat.pow_zero] at h; rw [show x = 0 by omega]; rfl
  | k + 1, x, h => by
    rw [lh, List.reverse_cons, unh_snoc, unh_lh k _ (by rw [Nat.pow_succ] at h; omega), hix_hexd (Nat.mod_lt _ (by decide))]
    omega
theorem all_lh : ∀ (k x : Nat), (lh k x).all isH = true
  | 0, _ => rfl
  | k + 1, x => by
    rw [lh, List.all_cons, all_lh k, Bool.and_true]
    unfold isH
    rw [hix_hexd (Nat.mod_lt _ (by decide))]
    exact decide_eq_true (by omega)
theorem okH_hexT (x : Nat) : okH (hexT x) = true := by
  unfold okH
  rw [hexT_length, hexT, List.all_reverse, all_lh]
  rfl
theorem unhex_hex {x : Nat} (h : x < 18446744073709551616) : errH (hexT x) = 0 ∧ valH (hexT x) = x := by
  unfold errH valH
  rw [okH_hexT, if_pos rfl, if_pos rfl, hexT, unh_lh 16 x (by have : 16 ^ 16 = 18446744073709551616 := by decide
                                                              omega)]
  exact ⟨rfl, rfl⟩
theorem unh_lt {l : List Nat} (h : l.all isH = true) : unh l < 16 ^ l.length := by
  induction l using snocInd with
  | h0 => decide
  | h1 b c ih =>
    rw [List.all_append, Bool.and_eq_true] at h
    have h1 := ih h.1
    have h2 := hix_lt c
    rw [unh_snoc, List.length_append, List.length_singleton, Nat.pow_succ]
    omega
theorem all_take {l : List Nat} {p : Nat → Bool} {k : Nat} (h : (l.take k).all p = true) (hk : k < l.length) (hp : p (nth l k) = true) : (l.take (k + 1)).all p = true := by
  rw [take_snoc hk, List.all_append, h]
  simp [hp]
theorem not_all {l : List Nat} {p : Nat → Bool} {k : Nat} (hk : k < l.length) (hp : p (nth l k) = false) : l.all p = false := by
  rw [List.all_eq_false]
  refine ⟨l[k], List.getElem_mem hk, ?_⟩
  rw [nth_eq, List.getElem?_eq_getElem hk] at hp
  exact fun h => by rw [show ((some l[k]).getD 0) = l[k] from rfl, h] at hp; cases hp
theorem errH_no {l : List Nat} (h : okH l = false) : errH l = 6 ∧ valH l = 0 := by unfold errH valH; rw [h]; exact ⟨rfl, rfl⟩
theorem errH_yes {l : List Nat} (h : okH l = true) : errH l = 0 ∧ valH l = unh l := by unfold errH valH; rw [h]; exact ⟨rfl, rfl⟩
theorem okH_len {l : List Nat} (h : l.length ≠ 16) : okH l = false := by unfold okH; rw [decide_eq_false h]; rfl
theorem okH_bad {l : List Nat} (h : l.all isH = false) : okH l = false := by unfold okH; rw [h, Bool.and_false]
theorem okH_good {l : List Nat} (h : l.all isH = true) (hl : l.length = 16) : okH l = true := by unfold okH; rw [h, decide_eq_true hl]; rfl
theorem hex_get : ∀ d : Nat, d < 16 → ∀ h, ((⟨#[48, 49, 50, 51, 52, 53, 54, 55, 56, 57, 97, 98, 99, 100, 101, 102]⟩ : ByteArray)[d]'h).toNat = hexd d := by decide

end Go.Proofs.YtpgiolbnmlbjbaaGreatDoor
