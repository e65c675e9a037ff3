/- Walks: cmp.Compare at two types, nat.Cmp. -/
import Derived.Test.YtajegednakenbaaDoorNatA
namespace Go.Proofs.YtajegednakenbaaDoor
open Go.RowKit
set_option linter.unusedVariables false
set_option linter.unusedSimpArgs false

theorem isNaNI_any (x : Int) (w : World) : Calls Tryd.prog 67 #[.int .i64 x] w fun e w' => e = .returned (.bool false) ∧ w = w' := by
  go_enter Tryd.func67, Tryd.ntmps67
  go_wp2
  go_ret
  exact ⟨rfl, rfl⟩
theorem isNaNU_any (x : Int) (w : World) : Calls Tryd.prog 75 #[.int .u32 x] w fun e w' => e = .returned (.bool false) ∧ w = w' := by
  go_enter Tryd.func75, Tryd.ntmps75
  go_wp2
  go_ret
  exact ⟨rfl, rfl⟩

theorem compareI_any (x y : Int) (w : World) : Calls Tryd.prog 50 #[.int .i64 x, .int .i64 y] w fun e w' => e = .returned (.int .i64 (cmpI x y)) ∧ w = w' := by
  rcases Int.lt_trichotomy x y with h | rfl | h
  · rw [cmpI_lt h]
    go_enter Tryd.func50, Tryd.ntmps50
    go_wp2_with (go_at_call 67; refine (isNaNI_any _ _).mono ?_; rintro e w' ⟨rfl, rfl⟩)
    go_ret
    exact ⟨rfl, rfl⟩
  · rw [cmpI_eq x]
    go_enter Tryd.func50, Tryd.ntmps50
    go_wp2_with (go_at_call 67; refine (isNaNI_any _ _).mono ?_; rintro e w' ⟨rfl, rfl⟩)
    go_ret
    exact ⟨rfl, rfl⟩
  · rw [cmpI_gt h]
    have h' : ¬ x < y := by omega
    go_enter Tryd.func50, Tryd.ntmps50
    go_wp2_with (go_at_call 67; refine (isNaNI_any _ _).mono ?_; rintro e w' ⟨rfl, rfl⟩)
    go_ret
    exact ⟨rfl, rfl⟩

theorem compareU_any (x y : Int) (w : World) : Calls Tryd.prog 68 #[.int .u32 x, .int .u32 y] w fun e w' => e = .returned (.int .i64 (cmpI x y)) ∧ w = w' := by
  rcases Int.lt_trichotomy x y with h | rfl | h
  · rw [cmpI_lt h]
    go_enter Tryd.func68, Tryd.ntmps68
    go_wp2_with (go_at_call 75; refine (isNaNU_any _ _).mono ?_; rintro e w' ⟨rfl, rfl⟩)
    go_ret
    exact ⟨rfl, rfl⟩
  · rw [cmpI_eq x]
    go_enter Tryd.func68, Tryd.ntmps68
    go_wp2_with (go_at_call 75; refine (isNaNU_any _ _).mono ?_; rintro e w' ⟨rfl, rfl⟩)
    go_ret
    exact ⟨rfl, rfl⟩
  · rw [cmpI_gt h]
    have h' : ¬ x < y := by omega
    go_enter Tryd.func68, Tryd.ntmps68
    go_wp2_with (go_at_call 75; refine (isNaNU_any _ _).mono ?_; rintro e w' ⟨rfl, rfl⟩)
    go_ret
    exact ⟨rfl, rfl⟩

/-- An int is returned; nothing has turned but for draws. -/
def RetIQ (w : World) (x : Int) (e : Ending) (w' : World) : Prop := e = .returned (.int .i64 x) ∧ ∃ n, w' = w.drewN n

def SameAbove (x y : Nat) (t : Int) : Prop := ∀ j : Nat, t < j → nth (dig x) j = nth (dig y) j

theorem cmp_any (x y : Nat) (va vb : Value) (w : World) (ha : IsN w va x) (hb : IsN w vb y) :
    Calls Tryd.prog 51 #[va, vb] w (RetIQ w (cmpI x y)) := by
  obtain ⟨A, n, c, rfl, ha⟩ := ha
  obtain ⟨B, m, d, rfl, hb⟩ := hb
  have HA := length_any _ A n c w ha
  have HB := length_any _ B m d w hb
  have la := ha.len
  have lb := hb.len
  rw [trim_dig, la] at HA
  rw [trim_dig, lb] at HB
  have HLA := Lib.hid HA; clear HA
  have HLB := Lib.hid HB; clear HB
  have ha63 := ha.le63
  rcases Nat.lt_trichotomy n m with hlt | heq | hgt
  · have hxy : x < y := by
      rcases Nat.lt_or_ge x y with h | h
      · exact h
      · have := len_mono h; unfold len at this; omega
    have hc : cmpI (n : Int) (m : Int) = -1 := cmpI_lt (by omega)
    have hc2 : cmpI (x : Int) (y : Int) = -1 := cmpI_lt (by omega)
    rw [hc2]
    have HC := compareI_any n m w
    rw [hc] at HC
    have HCH := Lib.hid HC
    clear HC hc hc2 la lb
    go_enter Tryd.func51, Tryd.ntmps51
    go_wp2_with fail
    refine HLA.out.mono ?_; rintro e w' ⟨rfl, rfl⟩
    go_wp2_with fail
    refine HLB.out.mono ?_; rintro e w' ⟨rfl, rfl⟩
    go_wp2_with fail
    refine HCH.out.mono ?_; rintro e w' ⟨rfl, rfl⟩
    go_wp2_with fail
    go_ret
    exact ⟨rfl, 0, rfl⟩
  · subst heq
    have HC := compareI_any n n w
    rw [cmpI_eq] at HC
    have HCH := Lib.hid HC
    clear HC
    have HLa := Lib.hid la; clear la
    have HLb := Lib.hid lb; clear lb
    refine Calls.mono (R := fun e w' => ∃ i : Int, e = .returned (.int .i64 i) ∧ Hid (i = cmpI x y) ∧ ∃ n, w' = w.drewN n) ?_ (by rintro e w' ⟨i, rfl, h1, h2⟩; exact ⟨by rw [h1.out], h2⟩)
    go_enter Tryd.func51, Tryd.ntmps51
    go_wp2_with fail
    refine HLA.out.mono ?_; rintro e w' ⟨rfl, rfl⟩
    go_wp2_with fail
    refine HLB.out.mono ?_; rintro e w' ⟨rfl, rfl⟩
    go_wp2_with fail
    refine HCH.out.mono ?_; rintro e w' ⟨rfl, rfl⟩
    go_wp2_with fail
    go_loopw [7] (fun i wr => ∃ t : Int, i = .int .i64 t ∧ -1 ≤ t ∧ t < n ∧ SameAbove x y t ∧ ∃ q, wr = w.drewN q) (fun i _ => (intOf i + 1).toNat)
    case atStart => exact ⟨_, rfl, by omega, by omega, fun j hj => by rw [nth_of_ge (by rw [HLa.out]; omega), nth_of_ge (by rw [HLb.out]; omega)], 0, rfl⟩
    case round =>
      obtain ⟨t, rfl, h1, h2, HS, q, rfl⟩ := hrel
      by_cases ht : t = -1
      · subst ht
        go_wp2_with fail
        go_ret
        refine ⟨_, rfl, ?_, q, rfl⟩
        have e : dig x = dig y := eq_of_nth (by rw [HLa.out, HLb.out]) (fun j => HS j (by omega))
        rw [dig_inj e]
        exact (cmpI_eq _).symm
      · obtain ⟨k, rfl⟩ : ∃ k : Nat, t = (k : Int) := ⟨t.toNat, by omega⟩
        obtain ⟨b, off, xi, rfl, _, hxc, HX, hx⟩ := ha.get (Below.refl _ w) (k := k) (by omega)
        obtain ⟨b', off', yi, rfl, _, hyc, HY, hy⟩ := hb.get (Below.refl _ w) (k := k) (by omega)
        clear ht
        rcases Nat.lt_trichotomy xi yi with h | h | h
        · have HC := fun W => compareU_any xi yi W
          rw [cmpI_lt (by omega)] at HC
          have HCC := Lib.hid HC; clear HC
          have hlt : x < y := by
            have := val_lt_of_top (i := k) (small_dig x) (b := dig y) (by rw [HLa.out, HLb.out]) (fun j hj => HS j (by omega)) (by rw [HX.out, HY.out]; exact h)
            rwa [val_dig, val_dig] at this
          have HLT := Lib.hid (cmpI_lt (show (x : Int) < y by omega)); clear hlt h
          go_wp2_with fail
          go_quiet ((go_at_call 68; first | exact quietA (HCC.out _) | exact quietB (HCC.out _)))
          go_wp2
          go_ret
          exact ⟨_, rfl, HLT.out.symm, _, rfl⟩
        · subst h
          have HC := fun W => compareU_any xi xi W
          rw [cmpI_eq] at HC
          have HCC := Lib.hid HC; clear HC
          go_wp2_with fail
          go_quiet ((go_at_call 68; first | exact quietA (HCC.out _) | exact quietB (HCC.out _)))
          go_wp2
          go_roundw
          case rel =>
            refine ⟨_, rfl, by omega, by omega, fun j hj => ?_, _, rfl⟩
            by_cases hjk : j = k
            · subst hjk; rw [HX.out, HY.out]
            · exact HS j (by omega)
          case measure => simp [intOf] <;> omega
        · have HC := fun W => compareU_any xi yi W
          rw [cmpI_gt (by omega)] at HC
          have HCC := Lib.hid HC; clear HC
          have hlt : y < x := by
            have := val_lt_of_top (i := k) (small_dig y) (b := dig x) (by rw [HLa.out, HLb.out]) (fun j hj => (HS j (by omega)).symm) (by rw [HX.out, HY.out]; exact h)
            rwa [val_dig, val_dig] at this
          have HLT := Lib.hid (cmpI_gt (show (y : Int) < x by omega)); clear hlt h
          go_wp2_with fail
          go_quiet ((go_at_call 68; first | exact quietA (HCC.out _) | exact quietB (HCC.out _)))
          go_wp2
          go_ret
          exact ⟨_, rfl, HLT.out.symm, _, rfl⟩
  · have hxy : y < x := by
      rcases Nat.lt_or_ge y x with h | h
      · exact h
      · have := len_mono h; unfold len at this; omega
    have hc : cmpI (n : Int) (m : Int) = 1 := cmpI_gt (by omega)
    have hc2 : cmpI (x : Int) (y : Int) = 1 := cmpI_gt (by omega)
    rw [hc2]
    have HC := compareI_any n m w
    rw [hc] at HC
    have HCH := Lib.hid HC
    clear HC hc hc2 la lb
    go_enter Tryd.func51, Tryd.ntmps51
    go_wp2_with fail
    refine HLA.out.mono ?_; rintro e w' ⟨rfl, rfl⟩
    go_wp2_with fail
    refine HLB.out.mono ?_; rintro e w' ⟨rfl, rfl⟩
    go_wp2_with fail
    refine HCH.out.mono ?_; rintro e w' ⟨rfl, rfl⟩
    go_wp2_with fail
    go_ret
    exact ⟨rfl, 0, rfl⟩

end Go.Proofs.YtajegednakenbaaDoor
