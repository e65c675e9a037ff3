/- Walks: quotient.DivMod, Exact, Divides, remainder. -/
import Derived.Test.YtajegednakenbaaDoorQuotD
import Derived.Test.YtajegednakenbaaDoorLive
namespace Go.Proofs.YtajegednakenbaaDoor
open Go.RowKit
set_option linter.unusedVariables false
set_option linter.unusedSimpArgs false

/-- A quotient and a remainder, both new, and true. -/
def RetD (w : World) (q r : Nat) (e : Ending) (w' : World) : Prop := ∃ vq vr, e = .returned (.tuple #[vq, vr, .bool true]) ∧ Own w' w.heap.size vq (dig q) ∧ Own w' w.heap.size vr (dig r) ∧ Below w.heap.size w w'
/-- Nothing and false. -/
def RetNo (w : World) (e : Ending) (w' : World) : Prop := e = .returned (.tuple #[.slice none 0 0, .slice none 0 0, .bool false]) ∧ Below w.heap.size w w'

theorem trimD_any (x : Nat) (v : Value) (w : World) (h : IsN w v x) (hx : len x ≤ 1099511627776) : Calls Tryd.prog 41 #[v] w (RetN w x) := by
  obtain ⟨A, n, c, rfl, h⟩ := h
  have hl : len x = n := h.len
  have := trim_any _ A n c w h (by omega)
  rwa [trim_dig] at this

set_option maxHeartbeats 400000 in
theorem divmod_zero (x : Nat) (va vb : Value) (w : World) (ha : IsN w va x) (hb : IsN w vb 0) (hx : len x ≤ 274877906944) :
    Calls Tryd.prog 59 #[va, vb] w (RetNo w) := by
  have HTA := Lib.hid (trimD_any x va w ha (by omega))
  have HTB := Lib.hid (fun W (hW : Below w.heap.size w W) => trimD_any 0 vb W (hb.mono hW) (by rw [len_zero]; omega))
  obtain ⟨A, n, c, rfl, _⟩ := ha
  obtain ⟨B, m, d, rfl, _⟩ := hb
  go_enter Tryd.func59, Tryd.ntmps59
  go_wp2_with fail
  refine HTA.out.mono ?_
  rintro e w1 ⟨v1, rfl, o1⟩
  go_wp2_with fail
  refine (HTB.out w1 o1.below).mono ?_
  rintro e w2 ⟨v2, rfl, o2⟩
  obtain ⟨B2, m2, d2, rfl⟩ := o2.slice
  have hl := o2.own.sl.len
  rw [dig_zero] at hl
  obtain rfl : m2 = 0 := hl.symm
  have hb2 := o1.below.trans (o2.below.mono o1.below.size)
  clear hl o1 o2
  go_wp2_with fail
  go_ret3
  exact ⟨rfl, hb2⟩

set_option maxHeartbeats 1000000 in
theorem divmod_any (x y : Nat) (va vb : Value) (w : World) (ha : IsN w va x) (hb : IsN w vb y) (hx : len x ≤ 274877906944) (hly : len y ≤ 274877906944) (hy : 0 < y) :
    Calls Tryd.prog 59 #[va, vb] w (RetD w (x / y) (x % y)) := by
  have HTA := Lib.hid (trimD_any x va w ha (by omega))
  have HTB := Lib.hid (fun W (hW : Below w.heap.size w W) => trimD_any y vb W (hb.mono hW) (by omega))
  obtain ⟨A, n, c, rfl, _⟩ := ha
  obtain ⟨B, m, d, rfl, _⟩ := hb
  have hyl := len_pos hy
  go_enter Tryd.func59, Tryd.ntmps59
  go_wp2_with fail
  refine HTA.out.mono ?_
  rintro e w1 ⟨v1, rfl, o1⟩
  go_wp2_with fail
  refine (HTB.out w1 o1.below).mono ?_
  rintro e w2 ⟨v2, rfl, o2⟩
  obtain ⟨A1, n1, c1, rfl⟩ := o1.slice
  obtain ⟨B2, m2, d2, rfl⟩ := o2.slice
  have hs := o2.own.sl
  have hm2 : len y = m2 := hs.len
  have hb2 := o1.below.trans (o2.below.mono o1.below.size)
  have hown := o1.own.below o2.below
  have hnz : ((m2 : Int) == 0) = false := by rw [beq_eq_false_iff_ne]; omega
  have i1 := isN_of_own hown rfl
  have i2 := o2.isN
  have HC := cmpB_any x y _ _ w2 i1 i2
  clear o1 o2
  rcases Nat.lt_or_ge x y with hlt | hge
  · rw [cmpI_lt (by omega)] at HC
    have HCC := Lib.hid HC
    have HLT := Lib.hid hlt
    clear HC hlt hs hm2
    go_wp2_with fail
    refine HCC.out.mono ?_
    rintro e w3 ⟨rfl, b3⟩
    go_wp2_with fail
    go_ret3
    refine ⟨_, _, rfl, ?_, ?_, hb2.trans (b3.mono hb2.size)⟩
    · rw [Nat.div_eq_of_lt HLT.out, dig_zero]
      exact Own.nil _ _
    · rw [Nat.mod_eq_of_lt HLT.out]
      exact hown.below b3
  · have hcm : ¬ cmpI (x : Int) (y : Int) < 0 := by
      unfold cmpI; rw [if_neg (by omega)]; split <;> omega
    generalize cmpI (x : Int) (y : Int) = cc at *
    have HCC := Lib.hid HC
    clear HC
    by_cases h1 : m2 = 1
    · subst h1
      have hd := dig_of_len1 hm2
      obtain ⟨b, off, u, rfl, hbl, huc, HU, hu⟩ := hs.get (Below.refl _ w2) (k := 0) (by omega)
      have huy : u = y := by rw [← HU.out, hd]; rfl
      subst huy
      have HS := Lib.hid (fun W (hW : Below w2.heap.size w2 W) => qsmall_any x u (.slice A1 n1 c1) W (i1.mono hW) (by omega) hy hu)
      have hrm : x % u < 4294967296 := Nat.lt_trans (Nat.mod_lt _ hy) hu
      have HO := Lib.hid (fun W => of_any (x % u) W (by omega))
      generalize x % u = r at *
      have HUC := Lib.hid (fun W (hW : Below w2.heap.size w2 W) => (hW.cell (p := ⟨b, off + 0, none⟩) hbl).trans huc)
      clear hd hs hm2 HU huc i1 i2 hge
      go_wp2_with fail
      refine HCC.out.mono ?_
      rintro e w3 ⟨rfl, b3⟩
      have huc3 := HUC.out w3 b3
      have HS3 := Lib.hid (HS.out w3 b3)
      rw [Nat.add_zero] at huc3
      have hb3 := hb2.trans (b3.mono hb2.size)
      clear hown
      go_wp2_with fail
      refine HS3.out.mono ?_
      rintro e w4 ⟨v4, rfl, o4⟩
      have hb4 := hb3.trans (o4.below.mono hb3.size)
      go_wp2_with fail
      refine (HO.out w4).mono ?_
      rintro e w5 ⟨v5, rfl, o5⟩
      go_wp2_with fail
      go_ret3
      exact ⟨_, _, rfl, (o4.own.below o5.below).base_le hb3.size, o5.own.base_le hb4.size, hb4.trans (o5.below.mono hb4.size)⟩
    · have hn1 : ((m2 : Int) == 1) = false := by rw [beq_eq_false_iff_ne]; omega
      have HL := Lib.hid (fun W (hW : Below w2.heap.size w2 W) => long_any x y (.slice A1 n1 c1) (.slice B2 m2 d2) W (i1.mono hW) (i2.mono hW) hge hx hyl)
      clear hs hm2 i1 i2 hge hown
      go_wp2_with fail
      refine HCC.out.mono ?_
      rintro e w3 ⟨rfl, b3⟩
      have hb3 := hb2.trans (b3.mono hb2.size)
      have HL3 := Lib.hid (HL.out w3 b3)
      go_wp2_with fail
      refine HL3.out.mono ?_
      rintro e w4 ⟨vq, vr, rfl, o1, o2, b4⟩
      go_wp2_with fail
      go_ret3
      exact ⟨_, _, rfl, o1.base_le hb3.size, o2.base_le hb3.size, hb3.trans (b4.mono hb3.size)⟩

/-- Whether there is no remainder; the quotient then, and 0 if not. -/
def exB (x y : Nat) : Bool := decide (0 < y ∧ x % y = 0)
def exQ (x y : Nat) : Nat := if 0 < y ∧ x % y = 0 then x / y else 0
theorem exB_zero (x : Nat) : exB x 0 = false := decide_eq_false (by omega)
theorem exQ_zero (x : Nat) : exQ x 0 = 0 := if_neg (by omega)
theorem exB_yes {x y : Nat} (h : 0 < y) (h2 : x % y = 0) : exB x y = true := decide_eq_true ⟨h, h2⟩
theorem exQ_yes {x y : Nat} (h : 0 < y) (h2 : x % y = 0) : exQ x y = x / y := if_pos ⟨h, h2⟩
theorem exB_no {x y : Nat} (h2 : 0 < x % y) : exB x y = false := decide_eq_false (by omega)
theorem exQ_no {x y : Nat} (h2 : 0 < x % y) : exQ x y = 0 := if_neg (by omega)
/-- Whether x is a multiple of y. -/
def dvB (y x : Nat) : Bool := decide (x = 0 ∨ 0 < y ∧ x % y = 0)
theorem dvB_zero (y : Nat) : dvB y 0 = true := decide_eq_true (.inl rfl)
theorem dvB_pos {y x : Nat} (h : 0 < x) : dvB y x = exB x y := by
  unfold dvB exB
  rw [decide_eq_decide]
  omega

end Go.Proofs.YtajegednakenbaaDoor
