/- The sanity check of layer 4: the examples of chapter 4 hold; what 'below' says; roots with what the laws ask of them. -/
import Derived.Test.YtdlojigbphhjaaaRefRoot
namespace Go.Proofs.Ytdlojigbphhjaaa
open Go.RowKit

theorem dvB_of {g p : Nat} (h : g ∣ p) : dvB g p = true := by
  refine decide_eq_true ?_
  rcases Nat.eq_zero_or_pos p with h0 | h0
  · exact .inl h0
  · rcases Nat.eq_zero_or_pos g with h1 | h1
    · subst h1
      exact .inl (Nat.eq_zero_of_zero_dvd h)
    · exact .inr ⟨h1, Nat.mod_eq_zero_of_dvd h⟩
/-- A square root and its rest. -/
def RetRoot2 (w : World) (a : Nat) (e : Ending) (w' : World) : Prop := ∃ r z vq vr, e = .returned (.tuple #[vq, vr]) ∧ IsN w' vq r ∧ IsN w' vr z ∧ Below w.heap.size w w' ∧ Hid (r * r + z = a) ∧ Hid (r ^ 2 ≤ a ∧ a < (r + 1) ^ 2) ∧ len r ≤ len a ∧ len z ≤ len a
theorem sqrtR_any (a : Nat) (va : Value) (w : World) (ha : IsN w va a) (hla : len a ≤ 10000) :
    Calls Try.prog 14 #[va] w (RetRoot2 w a) := by
  refine (sqrt_any a va w ha hla).mono ?_
  rintro e w' ⟨vq, vr, rfl, o1, o2, b⟩
  have h1 := rt_le a (show 0 < 2 by omega)
  have h2 := h1
  rw [Nat.pow_two] at h2
  exact ⟨_, _, vq, vr, rfl, isN_of_own o1 rfl, isN_of_own o2 rfl, b, show _ = _ by omega, show _ ∧ _ from ⟨h1, rt_lt a (by omega)⟩, len_mono (rt_self a (by omega)), len_sub _ _⟩
/-- A root of any order. -/
def RetRootK (w : World) (a k : Nat) (e : Ending) (w' : World) : Prop := ∃ r v, e = .returned (.tuple #[v, .bool true]) ∧ Out w w' v (dig r) ∧ Hid (r ^ k ≤ a ∧ a < (r + 1) ^ k) ∧ len r ≤ len a
theorem rootR_any (a k : Nat) (va : Value) (w : World) (ha : IsN w va a) (hla : len a ≤ 10000) (hk : 1 ≤ k) (hk2 : k ≤ 64) :
    Calls Try.prog 20 #[va, .int .i64 (k : Int)] w (RetRootK w a k) := by
  refine (root_any a k va w ha hla hk hk2).mono ?_
  rintro e w' ⟨v, rfl, o⟩
  exact ⟨_, v, rfl, o, show _ ∧ _ from ⟨rt_le a (by omega), rt_lt a (by omega)⟩, len_mono (rt_self a (by omega))⟩

set_option maxHeartbeats 1000000 in
theorem below_any (r a k : Nat) (vr va : Value) (w : World) (hr : IsN w vr r) (ha : IsN w va a) (hlr : len r ≤ 900000) (hk : k ≤ 64) (hlt : Hid (r ^ k ≤ a ∧ a < (r + 1) ^ k)) :
    Calls Try.prog 15 #[vr, va, .int .i64 (k : Int)] w fun e w' => e = .returned (.bool true) ∧ Below w.heap.size w w' := by
  have hl1 := len_add r 1
  have hl11 : len 1 ≤ 1 := len_le1 (by omega)
  have L := ((Live.mk (Below.refl w.heap.size w)).cons ha).cons hr
  have hc1 : cmpI ((r ^ k : Nat) : Int) (a : Int) ≤ 0 := by
    have h1 : r ^ k ≤ a := hlt.1
    unfold cmpI
    split
    · omega
    · rw [if_neg (by omega)]; omega
  have hc2 : 0 < cmpI (((r + 1) ^ k : Nat) : Int) (a : Int) := by
    have h1 : a < (r + 1) ^ k := hlt.2
    rw [cmpI_gt (by omega)]
    omega
  obtain ⟨A, n, c, rfl, _⟩ := ha
  obtain ⟨B, m, d, rfl, _⟩ := hr
  clear hlt
  go_enter Try.func15, Try.ntmps15
  go_wp2_with fail
  refine (validN_any r _ w (L.get (by simp))).mono ?_
  rintro e w' ⟨rfl, rfl⟩
  go_wp2_with fail
  refine (rpower_any r k _ w (L.get (by simp)) (by omega) (by omega)).mono ?_
  rintro e w1 ⟨v1, rfl, o1⟩
  replace L := L.add o1
  clear o1
  have HC := Lib.hid (rcmpB_any (r ^ k) a v1 (.slice A n c) w1 (L.get (by simp)) (L.get (by simp)))
  generalize cmpI ((r ^ k : Nat) : Int) (a : Int) = cc at *
  go_wp2_with fail
  refine HC.out.mono ?_
  rintro e w2 ⟨rfl, b2⟩
  replace L := L.step b2
  clear b2 HC
  go_wp2_with fail
  refine (rof_any 1 w2 (by omega)).mono ?_
  rintro e w3 ⟨v3, rfl, o3⟩
  replace L := L.add o3
  clear o3
  have H4 := Lib.hid (radd_any r 1 (.slice B m d) v3 w3 (L.get (by simp)) (L.get (by simp)) (by omega) (by omega))
  go_wp2_with fail
  refine H4.out.mono ?_
  rintro e w4 ⟨v4, rfl, o4⟩
  replace L := L.add o4
  clear o4 H4
  have H5 := Lib.hid (rpower_any (r + 1) k v4 w4 (L.get (by simp)) (by omega) (by omega))
  go_wp2_with fail
  refine H5.out.mono ?_
  rintro e w5 ⟨v5, rfl, o5⟩
  replace L := L.add o5
  clear o5 H5
  have HC := Lib.hid (rcmpB_any ((r + 1) ^ k) a v5 (.slice A n c) w5 (L.get (by simp)) (L.get (by simp)))
  generalize cmpI (((r + 1) ^ k : Nat) : Int) (a : Int) = cd at *
  go_wp2_with fail
  refine HC.out.mono ?_
  rintro e w6 ⟨rfl, b6⟩
  replace L := L.step b6
  clear b6 HC
  go_wp2_with fail
  go_ret
  exact ⟨rfl, L.below⟩

set_option maxHeartbeats 1000000 in
theorem awake4_any (w : World) :
    Calls Try.prog 8 #[] w fun e w' => e = .returned (.bool true) ∧ Below w.heap.size w w' := by
  have l10 : len 10 ≤ 1 := len_le1 (by omega)
  have l80 : len 80 ≤ 1 := len_le1 (by omega)
  have R1 := Lib.hid (show rt 2 10 = 3 from rt_unique (by omega) (by decide) (by decide))
  have R2 := Lib.hid (show rt 4 80 = 2 from rt_unique (by omega) (by decide) (by decide))
  go_enter Try.func8, Try.ntmps8
  go_wp2_with fail
  refine (of_any 10 w (by omega)).mono ?_
  rintro e w1 ⟨v1, rfl, o1⟩
  have L := (Live.mk (Below.refl w.heap.size w)).add o1
  clear o1
  have HS := sqrt_any 10 v1 w1 (L.get (by simp)) (by omega)
  rw [R1.out] at HS
  have HS2 := Lib.hid HS
  clear HS
  go_wp2_with fail
  refine HS2.out.mono ?_
  rintro e w2 ⟨vq, vr, rfl, oq, or, b2⟩
  replace L := ((L.step b2).cons (isN_of_own (x := 3) oq rfl)).cons (isN_of_own (x := 1) or rfl)
  clear oq or b2 HS2
  go_wp2_with fail
  refine (of_any 80 w2 (by omega)).mono ?_
  rintro e w3 ⟨v3, rfl, o3⟩
  replace L := L.add o3
  clear o3
  have HR := root_any 80 4 v3 w3 (L.get (by simp)) (by omega) (by omega) (by omega)
  rw [R2.out] at HR
  have HR2 := Lib.hid HR
  clear HR
  go_wp2_with fail
  refine HR2.out.mono ?_
  rintro e w4 ⟨v4, rfl, o4⟩
  replace L := L.add o4
  clear o4 HR2
  go_wp2_with fail
  have L6 := (L.step ((Below.refl w4.heap.size w4).alloc (Nat.le_refl _) (.cells #[.int .u32 3] 43))).cons (isN_litI w4 3 3 rfl (by omega) (by omega))
  refine (same_yes 3 3 _ _ _ (L6.get (by simp)) (L6.get (by simp)) rfl).mono ?_
  rintro e w' ⟨rfl, rfl⟩
  generalize w4.alloc (.cells #[.int .u32 3] 43) = w5 at *
  go_wp2_with fail
  have L7 := (L6.step ((Below.refl w5.heap.size w5).alloc (Nat.le_refl _) (.cells #[.int .u32 1] 43))).cons (isN_litI w5 1 1 rfl (by omega) (by omega))
  refine (same_yes 1 1 _ _ _ (L7.get (by simp)) (L7.get (by simp)) rfl).mono ?_
  rintro e w' ⟨rfl, rfl⟩
  generalize w5.alloc (.cells #[.int .u32 1] 43) = w6 at *
  go_wp2_with fail
  have L8 := (L7.step ((Below.refl w6.heap.size w6).alloc (Nat.le_refl _) (.cells #[.int .u32 2] 43))).cons (isN_litI w6 2 2 rfl (by omega) (by omega))
  refine (same_yes 2 2 _ _ _ (L8.get (by simp)) (L8.get (by simp)) rfl).mono ?_
  rintro e w' ⟨rfl, rfl⟩
  generalize w6.alloc (.cells #[.int .u32 2] 43) = w7 at *
  have HG := Lib.hid (gcd_any 0 0 (.slice none 0 0) (.slice none 0 0) w7 (IsN.zero _) (IsN.zero _) (by rw [len_zero]; omega) (by rw [len_zero]; omega))
  go_wp2_with fail
  refine HG.out.mono ?_
  rintro e w8 ⟨v8, rfl, o8⟩
  have L9 := L8.step o8.below
  obtain ⟨B, d, e8, _⟩ := o8.own.form
  rw [show Nat.gcd 0 0 = 0 from rfl, dig_zero, List.length_nil] at e8
  subst e8
  clear L L6 L7 L8 o8
  go_wp2_with fail
  go_ret
  exact ⟨rfl, L9.below⟩

end Go.Proofs.Ytdlojigbphhjaaa
