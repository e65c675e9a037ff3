/- Contracts in the form in which the laws use them. -/
import Derived.Test.YtklbkgcjbekdfaaDoorAwake
namespace Go.Proofs.YtklbkgcjbekdfaaDoor
open Go.RowKit

/-- What is known at a point of a law's walk: nothing that was there when it began has turned, and these values stand for these numbers. -/
def Live (w0 w : World) (l : List (Value × Nat)) : Prop := Below w0.heap.size w0 w ∧ ∀ p ∈ l, IsN w p.1 p.2
theorem Live.mk {w0 w : World} (h : Below w0.heap.size w0 w) : Live w0 w [] := ⟨h, fun p hp => by cases hp⟩
theorem Live.step {w0 w w' : World} {l : List (Value × Nat)} (h : Live w0 w l) (hb : Below w.heap.size w w') : Live w0 w' l := ⟨h.1.trans (hb.mono h.1.size), fun p hp => (h.2 p hp).mono hb⟩
theorem Live.cons {w0 w : World} {l : List (Value × Nat)} (h : Live w0 w l) {v : Value} {x : Nat} (hv : IsN w v x) : Live w0 w ((v, x) :: l) :=
  ⟨h.1, fun p hp => by
    rcases List.mem_cons.1 hp with rfl | hp
    · exact hv
    · exact h.2 p hp⟩
theorem Live.add {w0 w w' : World} {l : List (Value × Nat)} (h : Live w0 w l) {v : Value} {x : Nat} (o : Out w w' v (dig x)) : Live w0 w' ((v, x) :: l) := (h.step o.below).cons o.isN
theorem Live.get {w0 w : World} {l : List (Value × Nat)} (h : Live w0 w l) {v : Value} {x : Nat} (hp : (v, x) ∈ l) : IsN w v x := h.2 (v, x) hp
theorem Live.below {w0 w : World} {l : List (Value × Nat)} (h : Live w0 w l) : Below w0.heap.size w0 w := h.1

/-- A list as a number, and whether it is short enough. -/
def RetMill (w : World) (m : Nat) (e : Ending) (w' : World) : Prop := ∃ v b x, e = .returned (.tuple #[v, .bool b]) ∧ IsN w' v x ∧ len x ≤ m ∧ Below w.heap.size w w'
theorem mill_any (l : List Nat) (m : Nat) (A : Option Addr) (n c : Nat) (w : World) (h : Sl w A n c l) (hm : m ≤ 1000000) :
    Calls Tryd.prog 19 #[.slice A n c, .int .i64 (m : Int)] w (RetMill w m) := by
  refine (millNat_any l m A n c w h hm).mono ?_
  rintro e w' (⟨hl, v, rfl, o⟩ | ⟨hl, rfl, rfl⟩)
  · rw [← dig_val h.small] at o
    exact ⟨v, true, val l, rfl, o.isN, Nat.le_trans (len_val_le h.small) hl, o.below⟩
  · exact ⟨_, false, 0, rfl, IsN.zero _, by rw [len_zero]; omega, Below.refl _ _⟩

/-- An int; nothing that was there has turned. -/
def RetI (w : World) (x : Int) (e : Ending) (w' : World) : Prop := e = .returned (.int .i64 x) ∧ Below w.heap.size w w'
theorem cmpB_any (x y : Nat) (va vb : Value) (w : World) (ha : IsN w va x) (hb : IsN w vb y) :
    Calls Tryd.prog 20 #[va, vb] w (RetI w (cmpI x y)) :=
  (cmp_any x y va vb w ha hb).mono fun _ _ ⟨he, q, hq⟩ => ⟨he, by subst hq; exact belowN (Below.refl _ _) q⟩
theorem rcmpB_any (x y : Nat) (va vb : Value) (w : World) (ha : IsN w va x) (hb : IsN w vb y) :
    Calls Tryd.prog 21 #[va, vb] w (RetI w (cmpI x y)) := by
  obtain ⟨A, n, c, rfl, ha⟩ := ha
  obtain ⟨B, m, d, rfl, hb⟩ := hb
  have := rcmp_any _ _ A B n c m d w ha hb
  rw [val_dig, val_dig] at this
  exact this.mono fun _ _ ⟨he, hq⟩ => ⟨he, by subst hq; exact Below.refl _ _⟩
theorem same_yes (x y : Nat) (va vb : Value) (w : World) (ha : IsN w va x) (hb : IsN w vb y) (h : x = y) :
    Calls Tryd.prog 16 #[va, vb] w fun e w' => e = .returned (.bool true) ∧ w = w' := by
  have := same_any x y va vb w ha hb
  rwa [show sameB x y = true from decide_eq_true h] at this

theorem subYes_any (x y : Nat) (va vb : Value) (w : World) (ha : IsN w va x) (hb : IsN w vb y) (hx : len x ≤ 1099511627776) (h : y ≤ x) :
    Calls Tryd.prog 23 #[va, vb] w (RetNB w (x - y) true) := by
  have := sub_any x y va vb w ha hb hx
  unfold RetSub at this
  rwa [if_pos h, decide_eq_true h] at this

def ux (x : Nat) : Nat := if x < 18446744073709551616 then x else 0
def ub (x : Nat) : Bool := decide (x < 18446744073709551616)
def RetU (w : World) (n : Nat) (b : Bool) (e : Ending) (w' : World) : Prop := e = .returned (.tuple #[.int .u64 (n : Int), .bool b]) ∧ Below w.heap.size w w'
theorem uintB_any (x : Nat) (v : Value) (w : World) (h : IsN w v x) : Calls Tryd.prog 11 #[v] w (RetU w (ux x) (ub x)) :=
  (uint_any x v w h).mono fun _ _ ⟨he, q, hq⟩ => ⟨he, by subst hq; exact belowN (Below.refl _ _) q⟩
theorem ruintB_any (x : Nat) (v : Value) (w : World) (h : IsN w v x) : Calls Tryd.prog 12 #[v] w (RetU w (ux x) (ub x)) :=
  (ruint_any x v w h).mono fun _ _ ⟨he, q, hq⟩ => ⟨he, by subst hq; exact belowN (Below.refl _ _) q⟩
theorem uintN_any (x : Nat) (v : Value) (w : World) (h : IsN w v x) (hx : x < 18446744073709551616) : Calls Tryd.prog 11 #[v] w (RetU w x true) := by
  have := uintB_any x v w h
  rwa [show ux x = x from if_pos hx, show ub x = true from decide_eq_true hx] at this
theorem isTrim_dig (x : Nat) : isTrim (dig x) = true := by
  unfold isTrim
  rw [trim_dig]
  exact decide_eq_true rfl
theorem validN_any (x : Nat) (v : Value) (w : World) (h : IsN w v x) :
    Calls Tryd.prog 14 #[v] w fun e w' => e = .returned (.bool true) ∧ w = w' := by
  obtain ⟨A, n, c, rfl, h⟩ := h
  have := valid_any _ A n c w h
  rwa [isTrim_dig] at this

theorem len_two_pow (k : Nat) : len (2 ^ k) ≤ k + 1 := by
  apply len_le
  have h1 : 2 ^ k ≤ W32 ^ k := Nat.pow_le_pow_left (by unfold W32; omega) k
  have h2 : W32 ^ k < W32 ^ (k + 1) := Nat.pow_lt_pow_right W32_gt (by omega)
  omega
theorem len_shl (x k : Nat) : len (x * 2 ^ k) ≤ len x + k + 1 := by
  have := len_mul x (2 ^ k)
  have := len_two_pow k
  omega
theorem shlK_any (x k : Nat) (va : Value) (w : World) (ha : IsN w va x) (hx : len x ≤ 1099511627776) (hk : k ≤ 1048576) :
    Calls Tryd.prog 27 #[va, .int .i64 (k : Int)] w (RetN w (x * 2 ^ k)) := by
  have := shl_any x (k / 32) (k % 32) va w ha hx (by omega) (by omega)
  rwa [show 32 * (k / 32) + k % 32 = k from by omega] at this
theorem shrK_any (x k : Nat) (va : Value) (w : World) (ha : IsN w va x) (hx : len x ≤ 1099511627776) (hk : k ≤ 9223372036854775807) :
    Calls Tryd.prog 28 #[va, .int .i64 (k : Int)] w (RetN w (x / 2 ^ k)) := by
  have := shr_any x (k / 32) (k % 32) va w ha hx (by omega) (by omega)
  rwa [show 32 * (k / 32) + k % 32 = k from by omega] at this
theorem lowK_any (x k : Nat) (va : Value) (w : World) (ha : IsN w va x) (hx : len x ≤ 1099511627776) (hk : k ≤ 9223372036854775807) :
    Calls Tryd.prog 29 #[va, .int .i64 (k : Int)] w (RetN w (x % 2 ^ k)) := by
  have := low_any x (k / 32) (k % 32) va w ha hx (by omega) (by omega)
  rwa [show 32 * (k / 32) + k % 32 = k from by omega] at this
theorem rshlK_any (x k : Nat) (va : Value) (w : World) (ha : IsN w va x) (hx : len x ≤ 1099511627776) (hk : k ≤ 1099511627776) :
    Calls Tryd.prog 30 #[va, .int .i64 (k : Int)] w (RetN w (x * 2 ^ k)) := by
  have := rshl_any x (k / 32) (k % 32) va w ha hx (by omega) (by omega)
  rwa [show 32 * (k / 32) + k % 32 = k from by omega] at this
theorem rshrK_any (x k : Nat) (va : Value) (w : World) (ha : IsN w va x) (hx : len x ≤ 1099511627776) (hk : k ≤ 9223372036854775807) :
    Calls Tryd.prog 31 #[va, .int .i64 (k : Int)] w (RetN w (x / 2 ^ k)) := by
  have := rshr_any x (k / 32) (k % 32) va w ha hx (by omega) (by omega)
  rwa [show 32 * (k / 32) + k % 32 = k from by omega] at this
theorem rlowK_any (x k : Nat) (va : Value) (w : World) (ha : IsN w va x) (hx : len x ≤ 549755813888) (hk : k ≤ 1099511627776) :
    Calls Tryd.prog 32 #[va, .int .i64 (k : Int)] w (RetN w (x % 2 ^ k)) := by
  have := rlow_any x (k / 32) (k % 32) va w ha hx (by omega) (by omega)
  rwa [show 32 * (k / 32) + k % 32 = k from by omega] at this

end Go.Proofs.YtklbkgcjbekdfaaDoor
