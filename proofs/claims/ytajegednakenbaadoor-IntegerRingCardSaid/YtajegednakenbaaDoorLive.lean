/- Contracts in the form in which the laws use them. -/
import Derived.Test.YtajegednakenbaaDoorRefE
import Derived.Test.YtajegednakenbaaDoorNatG
import Derived.Test.YtajegednakenbaaDoorLiveA
namespace Go.Proofs.YtajegednakenbaaDoor
open Go.RowKit
set_option linter.unusedVariables false
set_option linter.unusedSimpArgs false

/-- An int; nothing that was there has turned. -/
def RetI (w : World) (x : Int) (e : Ending) (w' : World) : Prop := e = .returned (.int .i64 x) ∧ Below w.heap.size w w'
theorem cmpB_any (x y : Nat) (va vb : Value) (w : World) (ha : IsN w va x) (hb : IsN w vb y) :
    Calls Tryd.prog 51 #[va, vb] w (RetI w (cmpI x y)) :=
  (cmp_any x y va vb w ha hb).mono fun _ _ ⟨he, q, hq⟩ => ⟨he, by subst hq; exact belowN (Below.refl _ _) q⟩
theorem rcmpB_any (x y : Nat) (va vb : Value) (w : World) (ha : IsN w va x) (hb : IsN w vb y) :
    Calls Tryd.prog 34 #[va, vb] w (RetI w (cmpI x y)) := by
  obtain ⟨A, n, c, rfl, ha⟩ := ha
  obtain ⟨B, m, d, rfl, hb⟩ := hb
  have := rcmp_any _ _ A B n c m d w ha hb
  rw [val_dig, val_dig] at this
  exact this.mono fun _ _ ⟨he, hq⟩ => ⟨he, by subst hq; exact Below.refl _ _⟩
theorem subYes_any (x y : Nat) (va vb : Value) (w : World) (ha : IsN w va x) (hb : IsN w vb y) (hx : len x ≤ 1099511627776) (h : y ≤ x) :
    Calls Tryd.prog 54 #[va, vb] w (RetNB w (x - y) true) := by
  have := sub_any x y va vb w ha hb hx
  unfold RetSub at this
  rwa [if_pos h, decide_eq_true h] at this

def ux (x : Nat) : Nat := if x < 18446744073709551616 then x else 0
def ub (x : Nat) : Bool := decide (x < 18446744073709551616)
def RetU (w : World) (n : Nat) (b : Bool) (e : Ending) (w' : World) : Prop := e = .returned (.tuple #[.int .u64 (n : Int), .bool b]) ∧ Below w.heap.size w w'
theorem uintB_any (x : Nat) (v : Value) (w : World) (h : IsN w v x) : Calls Tryd.prog 42 #[v] w (RetU w (ux x) (ub x)) :=
  (uint_any x v w h).mono fun _ _ ⟨he, q, hq⟩ => ⟨he, by subst hq; exact belowN (Below.refl _ _) q⟩
theorem ruintB_any (x : Nat) (v : Value) (w : World) (h : IsN w v x) : Calls Tryd.prog 43 #[v] w (RetU w (ux x) (ub x)) :=
  (ruint_any x v w h).mono fun _ _ ⟨he, q, hq⟩ => ⟨he, by subst hq; exact belowN (Below.refl _ _) q⟩
theorem uintN_any (x : Nat) (v : Value) (w : World) (h : IsN w v x) (hx : x < 18446744073709551616) : Calls Tryd.prog 42 #[v] w (RetU w x true) := by
  have := uintB_any x v w h
  rwa [show ux x = x from if_pos hx, show ub x = true from decide_eq_true hx] at this
theorem isTrim_dig (x : Nat) : isTrim (dig x) = true := by
  unfold isTrim
  rw [trim_dig]
  exact decide_eq_true rfl
theorem validN_any (x : Nat) (v : Value) (w : World) (h : IsN w v x) :
    Calls Tryd.prog 45 #[v] w fun e w' => e = .returned (.bool true) ∧ w = w' := by
  obtain ⟨A, n, c, rfl, h⟩ := h
  have := valid_any _ A n c w h
  rwa [isTrim_dig] at this

theorem len_two_pow (k : Nat) : len (2 ^ k) ≤ k + 1 := by
  apply len_le
  have h1 : 2 ^ k ≤ W32 ^ k := Nat.pow_le_pow_left (by unfold W32; omega) k
  have h2 : W32 ^ k < W32 ^ (k + 1) := Nat.pow_lt_pow_right W32_gt (by omega)
  omega
theorem len_shl (x k : Nat) : len (x * 2 ^ k) ≤ len x + k + 1 := by
  have := len_mul x (2 ^ k)
  have := len_two_pow k
  omega
theorem shlK_any (x k : Nat) (va : Value) (w : World) (ha : IsN w va x) (hx : len x ≤ 1099511627776) (hk : k ≤ 1048576) :
    Calls Tryd.prog 61 #[va, .int .i64 (k : Int)] w (RetN w (x * 2 ^ k)) := by
  have := shl_any x (k / 32) (k % 32) va w ha hx (by omega) (by omega)
  rwa [show 32 * (k / 32) + k % 32 = k from by omega] at this
theorem shrK_any (x k : Nat) (va : Value) (w : World) (ha : IsN w va x) (hx : len x ≤ 1099511627776) (hk : k ≤ 9223372036854775807) :
    Calls Tryd.prog 62 #[va, .int .i64 (k : Int)] w (RetN w (x / 2 ^ k)) := by
  have := shr_any x (k / 32) (k % 32) va w ha hx (by omega) (by omega)
  rwa [show 32 * (k / 32) + k % 32 = k from by omega] at this
theorem rshlK_any (x k : Nat) (va : Value) (w : World) (ha : IsN w va x) (hx : len x ≤ 1099511627776) (hk : k ≤ 1099511627776) :
    Calls Tryd.prog 64 #[va, .int .i64 (k : Int)] w (RetN w (x * 2 ^ k)) := by
  have := rshl_any x (k / 32) (k % 32) va w ha hx (by omega) (by omega)
  rwa [show 32 * (k / 32) + k % 32 = k from by omega] at this
theorem rshrK_any (x k : Nat) (va : Value) (w : World) (ha : IsN w va x) (hx : len x ≤ 1099511627776) (hk : k ≤ 9223372036854775807) :
    Calls Tryd.prog 65 #[va, .int .i64 (k : Int)] w (RetN w (x / 2 ^ k)) := by
  have := rshr_any x (k / 32) (k % 32) va w ha hx (by omega) (by omega)
  rwa [show 32 * (k / 32) + k % 32 = k from by omega] at this
end Go.Proofs.YtajegednakenbaaDoor
