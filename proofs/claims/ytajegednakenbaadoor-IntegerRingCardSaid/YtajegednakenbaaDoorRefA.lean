/- Walks: the reference's at, Cmp, Same, Valid, Trim, Of, Uint. -/
import Derived.Test.YtajegednakenbaaDoorNatA
namespace Go.Proofs.YtajegednakenbaaDoor
open Go.RowKit
set_option linter.unusedVariables false
set_option linter.unusedSimpArgs false

theorem at_any (l : List Nat) (k : Nat) (A : Option Addr) (n c : Nat) (w : World) (h : Sl w A n c l) :
    Calls Tryd.prog 60 #[.slice A n c, .int .i64 (k : Int)] w fun e w' => e = .returned (.int .u64 (nth l k : Nat)) ∧ w = w' := by
  rcases Nat.lt_or_ge k n with hk | hk
  · obtain ⟨b, off, x, rfl, _, hc, HX, hx⟩ := h.get (Below.refl _ _) hk
    rw [HX.out]
    go_enter Tryd.func60, Tryd.ntmps60
    go_wp2
    go_ret
    exact ⟨rfl, rfl⟩
  · rw [nth_of_ge (by rw [h.len]; exact hk)]
    go_enter Tryd.func60, Tryd.ntmps60
    go_wp2
    go_ret
    exact ⟨rfl, rfl⟩

def SameOver (a b : List Nat) (t : Int) : Prop := ∀ j : Nat, t < j → nth a j = nth b j

theorem rcmp_any (a b : List Nat) (A B : Option Addr) (n c m d : Nat) (w : World) (ha : Sl w A n c a) (hb : Sl w B m d b) :
    Calls Tryd.prog 34 #[.slice A n c, .slice B m d] w fun e w' => e = .returned (.int .i64 (cmpI (val a : Nat) (val b : Nat))) ∧ w = w' := by
  have la := Lib.hid ha.len
  have lb := Lib.hid hb.len
  have a63 := ha.le63
  have b63 := hb.le63
  refine Calls.mono (R := fun e w' => ∃ i : Int, e = .returned (.int .i64 i) ∧ Hid (i = cmpI (val a : Nat) (val b : Nat)) ∧ w = w') ?_ (by rintro e w' ⟨i, rfl, h1, h2⟩; exact ⟨by rw [h1.out], h2⟩)
  go_enter Tryd.func34, Tryd.ntmps34
  go_wp2_with fail
  all_goals
    go_loop [5] (fun i => ∃ t : Int, i = .int .i64 t ∧ -1 ≤ t ∧ t ≤ 9223372036854775806 ∧ SameOver a b t) (fun i => (intOf i + 1).toNat)
    case atStart => exact ⟨_, rfl, by omega, by omega, fun j hj => by rw [nth_of_ge (by rw [la.out]; omega), nth_of_ge (by rw [lb.out]; omega)]⟩
    case round =>
      obtain ⟨t, rfl, h1, h2, HS⟩ := hrel
      by_cases ht : t = -1
      · subst ht
        go_wp2_with fail
        go_ret
        have e : val a = val b := val_eq_of_nth fun j => HS j (by omega)
        exact ⟨_, rfl, by rw [e]; exact (cmpI_eq _).symm, rfl⟩
      · obtain ⟨k, rfl⟩ : ∃ k : Nat, t = (k : Int) := ⟨t.toNat, by omega⟩
        clear ht
        have H1 := at_any a k A n c w ha
        have H2 := at_any b k B m d w hb
        obtain ⟨u, hu⟩ : ∃ u, nth a k = u := ⟨_, rfl⟩
        obtain ⟨v, hv⟩ : ∃ v, nth b k = v := ⟨_, rfl⟩
        rw [hu] at H1
        rw [hv] at H2
        have HA := Lib.hid H1; clear H1
        have HB := Lib.hid H2; clear H2
        have HU := Lib.hid hu; clear hu
        have HV := Lib.hid hv; clear hv
        rcases Nat.lt_trichotomy u v with h | h | h
        · have hlt : val a < val b := val_lt_top (i := k) ha.small (fun j hj => HS j (by omega)) (by rw [HU.out, HV.out]; exact h)
          have HLT := Lib.hid (cmpI_lt (show ((val a : Nat) : Int) < (val b : Nat) by omega)); clear hlt
          go_wp2_with fail
          refine HA.out.mono ?_; rintro e w' ⟨rfl, rfl⟩
          go_wp2_with fail
          refine HB.out.mono ?_; rintro e w' ⟨rfl, rfl⟩
          go_wp2_with fail
          go_ret
          exact ⟨_, rfl, HLT.out.symm, rfl⟩
        · subst h
          go_wp2_with fail
          refine HA.out.mono ?_; rintro e w' ⟨rfl, rfl⟩
          go_wp2_with fail
          refine HB.out.mono ?_; rintro e w' ⟨rfl, rfl⟩
          go_wp2_with fail
          refine HA.out.mono ?_; rintro e w' ⟨rfl, rfl⟩
          go_wp2_with fail
          refine HB.out.mono ?_; rintro e w' ⟨rfl, rfl⟩
          go_wp2_with fail
          go_round
          case rel =>
            refine ⟨_, rfl, by omega, by omega, fun j hj => ?_⟩
            by_cases hjk : j = k
            · subst hjk; rw [HU.out, HV.out]
            · exact HS j (by omega)
          case measure => simp [intOf] <;> omega
        · have hlt : val b < val a := val_lt_top (i := k) hb.small (fun j hj => (HS j (by omega)).symm) (by rw [HU.out, HV.out]; exact h)
          have HLT := Lib.hid (cmpI_gt (show ((val b : Nat) : Int) < (val a : Nat) by omega)); clear hlt
          have hn : ¬ (u : Int) < v := by omega
          go_wp2_with fail
          refine HA.out.mono ?_; rintro e w' ⟨rfl, rfl⟩
          go_wp2_with fail
          refine HB.out.mono ?_; rintro e w' ⟨rfl, rfl⟩
          go_wp2_with fail
          refine HA.out.mono ?_; rintro e w' ⟨rfl, rfl⟩
          go_wp2_with fail
          refine HB.out.mono ?_; rintro e w' ⟨rfl, rfl⟩
          go_wp2_with fail
          go_ret
          exact ⟨_, rfl, HLT.out.symm, rfl⟩

/-- Two lists of equal length with one value are one. -/
def sameB (x y : Nat) : Bool := decide (x = y)
theorem same_any (x y : Nat) (va vb : Value) (w : World) (ha : IsN w va x) (hb : IsN w vb y) :
    Calls Tryd.prog 47 #[va, vb] w fun e w' => e = .returned (.bool (sameB x y)) ∧ w = w' := by
  obtain ⟨A, n, c, rfl, ha⟩ := ha
  obtain ⟨B, m, d, rfl, hb⟩ := hb
  have H := rcmp_any _ _ A B n c m d w ha hb
  rw [val_dig, val_dig] at H
  have hl : len x = n := ha.len
  have hm : len y = m := hb.len
  have a63 := ha.le63
  have b63 := hb.le63
  by_cases hnm : n = m
  · by_cases hxy : x = y
    · subst hxy
      rw [cmpI_eq] at H
      rw [show sameB x x = true from decide_eq_true rfl]
      have HC := Lib.hid H; clear H
      clear hl hm
      subst hnm
      go_enter Tryd.func47, Tryd.ntmps47
      go_wp2_with (go_at_call 34; refine HC.out.mono ?_; rintro e w' ⟨rfl, rfl⟩)
      go_ret
      exact ⟨rfl, rfl⟩
    · rw [show sameB x y = false from decide_eq_false hxy]
      have hz : cmpI (x : Int) (y : Int) ≠ 0 := fun h => hxy (by have := cmpI_zero h; omega)
      have hzb : (cmpI (x : Int) (y : Int) == 0) = false := by simpa using hz
      have HC := Lib.hid H; clear H
      clear hl hm hz
      subst hnm
      generalize cmpI (x : Int) (y : Int) = cc at *
      go_enter Tryd.func47, Tryd.ntmps47
      go_wp2_with (go_at_call 34; refine HC.out.mono ?_; rintro e w' ⟨rfl, rfl⟩)
      go_ret
      exact ⟨rfl, rfl⟩
  · have hxy : x ≠ y := fun h => hnm (by rw [← hl, ← hm, h])
    rw [show sameB x y = false from decide_eq_false hxy]
    have hzb : ((n : Int) == (m : Int)) = false := by rw [beq_eq_false_iff_ne]; omega
    clear H hl hm hnm
    go_enter Tryd.func47, Tryd.ntmps47
    go_wp2_with fail
    go_ret
    exact ⟨rfl, rfl⟩

theorem rvalid_any (l : List Nat) (A : Option Addr) (n c : Nat) (w : World) (h : Sl w A n c l) :
    Calls Tryd.prog 46 #[.slice A n c] w fun e w' => e = .returned (.bool (isTrim l)) ∧ w = w' := by
  have hl := h.len
  have h63 := h.le63
  cases n with
  | zero =>
    have : l = [] := List.eq_nil_of_length_eq_zero hl
    rw [show isTrim l = true by rw [this]; rfl]
    clear hl this
    go_enter Tryd.func46, Tryd.ntmps46
    go_wp2
    go_ret
    exact ⟨rfl, rfl⟩
  | succ k =>
    obtain ⟨b, off, x, rfl, _, hc, HX, hx⟩ := h.get (Below.refl _ _) (k := k) (by omega)
    have hnz : ((k : Int) + 1 == 0) = false := by rw [beq_eq_false_iff_ne]; omega
    by_cases hx0 : x = 0
    · subst hx0
      have := trim_short h.small hl HX.out
      rw [show isTrim l = false from decide_eq_false (by omega)]
      clear hl this
      go_enter Tryd.func46, Tryd.ntmps46
      go_wp2
      go_ret
      exact ⟨rfl, rfl⟩
    · have := trim_full hl (by rw [HX.out]; exact hx0)
      rw [show isTrim l = true from decide_eq_true (by rw [this])]
      have hxb : ((x : Int) == 0) = false := by rw [beq_eq_false_iff_ne]; omega
      have hxn : ((x : Int) != 0) = true := by rw [bne_iff_ne]; omega
      clear hl this hx0
      go_enter Tryd.func46, Tryd.ntmps46
      go_wp2
      go_ret
      exact ⟨rfl, rfl⟩

theorem own_none (w : World) : Own (w.alloc (.cells #[] 34)) w.heap.size (.slice (some ⟨w.heap.size, 0, none⟩) 0 0) [] :=
  ⟨World.ownsRow_lit w #[] 0 (Nat.le_refl _) (Nat.zero_le _) rfl, small_nil⟩

theorem rtrim_any (l : List Nat) (A : Option Addr) (n c : Nat) (w : World) (h : Sl w A n c l) (hn : n ≤ 35184372088832) :
    Calls Tryd.prog 48 #[.slice A n c] w (RetL w (trim l)) := by
  have h63 := h.le63
  have hcap := h.cap
  have HL := Lib.hid h.len
  go_enter Tryd.func48, Tryd.ntmps48
  go_wp2
  go_loop [3] (fun t => ∃ k : Nat, t = .int .i64 k ∧ k ≤ n ∧ Hid (∀ j, k ≤ j → j < n → nth l j = 0)) (fun t => (intOf t).toNat)
  case atStart => exact ⟨n, rfl, Nat.le_refl _, fun j h1 h2 => by omega⟩
  case round =>
    obtain ⟨k, rfl, hk, Hz⟩ := hrel
    rcases Nat.eq_zero_or_pos k with h0 | h0
    · subst h0
      have HT := Lib.hid (trim_of (l := l) (k := 0) (by omega) (by rw [HL.out]; exact Hz.out) (by omega))
      go_wp2_with (at_builtin; refine wp_appS _ rfl _ _ rfl w.heap.size _ [] rfl (own_none w) _ _ c (l.take 0) rfl ((h.mono ((Below.refl _ _).alloc (Nat.le_refl _) _)).takeN (Nat.zero_le _)) (by simp) (by simp) ?_)
      intro v' w' h1 g1
      go_wp2
      go_ret
      exact ⟨_, rfl, by rw [HT.out]; exact h1, ((Below.refl _ _).alloc (Nat.le_refl _) _).grown g1 (by simp) (fun k hk => (own_none w).blockGe k hk)⟩
    · obtain ⟨m, rfl⟩ : ∃ m, k = m + 1 := ⟨k - 1, by omega⟩
      obtain ⟨b, off, x, rfl, hb, hc, HX, hx32⟩ := h.get (Below.refl _ _) (k := m) (by omega)
      by_cases hx : x = 0
      · subst hx
        go_wp2
        go_round
        case rel =>
          refine ⟨m, by go_num, by omega, fun j h1 h2 => ?_⟩
          rcases Nat.eq_or_lt_of_le h1 with rfl | h1
          · exact HX.out
          · exact Hz.out j h1 h2
        case measure => simp [intOf]
      · have hxb : ((x : Int) == 0) = false := by simp; omega
        have HT := Lib.hid (trim_of (l := l) (k := m + 1) (by rw [HL.out]; exact hk) (by rw [HL.out]; exact Hz.out) (fun _ => by rw [Nat.add_sub_cancel, HX.out]; exact hx))
        clear hx
        go_wp2_with (at_builtin; refine wp_appS _ rfl _ _ rfl w.heap.size _ [] rfl (own_none w) _ _ c (l.take (m + 1)) rfl ((h.mono ((Below.refl _ _).alloc (Nat.le_refl _) _)).takeN hk) (by simp; omega) (by simp) ?_)
        intro v' w' h1 g1
        go_wp2
        go_ret
        exact ⟨_, rfl, by rw [HT.out]; exact h1, ((Below.refl _ _).alloc (Nat.le_refl _) _).grown g1 (by simp) (fun k hk => (own_none w).blockGe k hk)⟩

theorem rof_any (n : Nat) (w : World) (hn : n < 18446744073709551616) :
    Calls Tryd.prog 49 #[.int .u64 (n : Int)] w (RetN w n) := by
  obtain ⟨x, hx⟩ : ∃ x, x = n % 4294967296 := ⟨_, rfl⟩
  obtain ⟨y, hy⟩ : ∃ y, y = n / 4294967296 := ⟨_, rfl⟩
  have ho := own_two w x y (by unfold W32; omega) (by unfold W32; omega)
  have e1 : (n : Int) % 4294967296 = (x : Int) := by omega
  have e2 : (n : Int) / 4294967296 = (y : Int) := by omega
  have hv : val [x, y] = n := by simp only [val, W32]; omega
  have hd : dig n = trim [x, y] := by rw [← hv, dig_val ho.small]
  have H := rtrim_any [x, y] _ _ _ _ ho.sl (by simp)
  rw [← hd, ← e1, ← e2] at H
  have HL := Lib.hid H
  clear H ho e1 e2 hv hd hx hy
  go_enter Tryd.func49, Tryd.ntmps49
  go_wp2_with fail
  refine HL.out.mono ?_
  rintro e w' ⟨v, rfl, hv⟩
  go_wp2_with fail
  go_ret
  exact ⟨_, rfl, hv.own.base_le (by simp), ((Below.refl _ _).alloc (Nat.le_refl _) _).trans (hv.below.mono (by simp))⟩

end Go.Proofs.YtajegednakenbaaDoor
