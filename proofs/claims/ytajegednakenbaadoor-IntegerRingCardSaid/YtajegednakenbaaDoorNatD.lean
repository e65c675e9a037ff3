/- Walks: nat.Sub. -/
import Derived.Test.YtajegednakenbaaDoorNatC
namespace Go.Proofs.YtajegednakenbaaDoor
open Go.RowKit
set_option linter.unusedVariables false
set_option linter.unusedSimpArgs false

/-- The difference and true, or nothing and false. -/
def RetSub (w : World) (x y : Nat) (e : Ending) (w' : World) : Prop := RetNB w (if y ≤ x then x - y else 0) (decide (y ≤ x)) e w'
theorem retSub_no {w w' : World} {x y : Nat} (h : x < y) (hb : Below w.heap.size w w') : RetSub w x y (.returned (.tuple #[.slice none 0 0, .bool false])) w' := by
  unfold RetSub
  rw [if_neg (by omega), decide_eq_false (by omega)]
  exact ⟨_, rfl, by rw [dig_zero]; exact Own.nil _ _, hb⟩
theorem retSub_yes {w w' : World} {x y : Nat} {v : Value} (h : y ≤ x) (ho : Own w' w.heap.size v (dig (x - y))) (hb : Below w.heap.size w w') : RetSub w x y (.returned (.tuple #[v, .bool true])) w' := by
  unfold RetSub
  rw [if_pos h, decide_eq_true h]
  exact ⟨_, rfl, ho, hb⟩

set_option maxHeartbeats 400000 in
theorem sub_any (x y : Nat) (va vb : Value) (w : World) (ha : IsN w va x) (hb : IsN w vb y) (hx : len x ≤ 1099511627776) :
    Calls Tryd.prog 54 #[va, vb] w (RetSub w x y) := by
  have HC := cmp_any x y va vb w ha hb
  have HCMP := Lib.hid HC; clear HC
  obtain ⟨A, n, c, rfl, ha⟩ := ha
  obtain ⟨B, m, d, rfl, hb⟩ := hb
  have hlx : len x = n := ha.len
  have hly : len y = m := hb.len
  have HLX := Lib.hid hlx; clear hlx
  have HLY := Lib.hid hly; clear hly
  rcases Nat.lt_or_ge x y with hlt | hge
  · have HLT := Lib.hid hlt
    have HE := Lib.hid (cmpI_lt (a := (x : Int)) (b := y) (by omega))
    clear hlt
    go_enter Tryd.func54, Tryd.ntmps54
    go_wp2_with fail
    refine HCMP.out.mono ?_
    rintro e w' ⟨rfl, q, rfl⟩
    rw [HE.out]
    go_wp2_with fail
    go_ret2
    exact retSub_no HLT.out (belowN (Below.refl _ w) q)
  · have HGE := Lib.hid hge
    have HR := Lib.hid (cmpI_range (x : Int) y)
    have hcm : 0 ≤ cmpI (x : Int) (y : Int) := by
      unfold cmpI; rw [if_neg (by omega)]; split <;> omega
    have hq := fun q => length_any _ A n c _ (ha.mono (belowN (Below.refl _ w) q))
    rw [trim_dig, ha.len] at hq
    have HLA := Lib.hid hq; clear hq hge
    generalize cmpI (x : Int) (y : Int) = cc at *
    have hcd : decide (cc < 0) = false := by simp; omega
    have hN : n ≤ 1099511627776 := by rw [← HLX.out]; exact hx
    go_enter Tryd.func54, Tryd.ntmps54
    go_wp2_with fail
    refine HCMP.out.mono ?_
    rintro e w' ⟨rfl, q, rfl⟩
    go_wp2_with (first
      | (go_at_call 66; refine (HLA.out _).mono ?_; rintro e w' ⟨rfl, rfl⟩)
      | (at_make; refine wp_mk _ rfl _ _ rfl w.heap.size _ _ n rfl rfl rfl rfl (by omega) (Nat.le_refl _) ?_))
    intro w1 h1 g1
    have b1 : Below w.heap.size w w1 := (belowN (Below.refl _ _) q).grown g1 (Nat.le_refl _) (fun k h => by cases h)
    clear g1
    obtain ⟨g, hg⟩ : ∃ g, g = w.heap.size := ⟨_, rfl⟩
    rw [← hg] at h1 ⊢
    have HG := Lib.hid hg; clear hg
    go_wp2_with fail
    go_loopw [7, 19] (fun t i wr => ∃ (k bw : Nat) (s : List Nat), i = .int .i64 k ∧ t = .int .u64 bw ∧ k ≤ n ∧ bw ≤ 1 ∧ SubIs x y s k bw ∧ Own wr g (.slice (some ⟨g, 0, none⟩) n n) (s ++ List.replicate (n - k) 0) ∧ Below w.heap.size w wr) (fun _ i _ => n - (intOf i).toNat)
    case atStart => exact ⟨0, 0, [], rfl, rfl, by omega, by omega, subIs_zero x y, h1, b1⟩
    case round =>
      obtain ⟨k, bw, s, rfl, rfl, hk, hbw, HS, hown, hbel⟩ := hrel
      clear h1 b1
      rcases Nat.eq_or_lt_of_le hk with rfl | hkn
      · rw [Nat.sub_self, List.replicate_zero, List.append_nil] at hown
        have H := length_any _ _ _ _ _ hown.sl
        have HT := Lib.hid (subIs_end HS (Nat.le_of_eq HLX.out) HGE.out)
        rw [HT.out] at H
        have hdl : (dig (x - y)).length ≤ k := by
          rw [← HT.out]
          have := length_trim_le s
          rw [HS.1] at this
          exact this
        have hcut := hown.cut hdl
        have HD := Lib.hid (show s.take (dig (x - y)).length = dig (x - y) by rw [← HT.out, trim_take])
        rw [HD.out] at hcut
        obtain ⟨kk, hkk⟩ : ∃ kk, kk = (dig (x - y)).length := ⟨_, rfl⟩
        rw [← hkk] at hdl H
        have HKK := Lib.hid hkk; clear hkk
        have HL := Lib.hid H; clear H
        have HHcut := Lib.hid hcut; clear hcut
        clear hown
        go_wp2_with (go_at_call 66; refine HL.out.mono ?_; rintro e w' ⟨rfl, rfl⟩)
        go_ret2
        have := HHcut.out
        rw [← HKK.out] at this
        exact retSub_yes HGE.out (this.base_le (Nat.le_of_eq HG.out.symm)) hbel
      · have hfree := hown.free k
        obtain ⟨z, hz, _, _⟩ := hown.cell (j := k) (by omega)
        obtain ⟨b, off, u, rfl, _, hxc, HU, hu⟩ := ha.get hbel (k := k) hkn
        rw [show n - k = (n - (k + 1)) + 1 from by omega] at hown
        have hlg := hbel.size
        rcases Nat.lt_or_ge k m with hkm | hkm
        · obtain ⟨b', off', v, rfl, _, hyc, HV, hv⟩ := hb.get hbel (k := k) hkm
          rcases Nat.lt_or_ge u (bw + v) with h | h
          · rcases Nat.lt_or_ge u bw with h' | h'
            · obtain rfl : u = 0 := by omega
              obtain rfl : bw = 1 := by omega
              have hst := hown.store (j := k) (x := 4294967295 - v) (by unfold W32; omega)
              rw [set_end s (n - (k + 1)) _ HS.1, show ((4294967295 - v : Nat) : Int) = IntKind.u64.wrap (IntKind.u64.wrap (-1) - (v : Int)) % 4294967296 from by rw [sub_two, sub_low (by omega) (by omega)]; omega] at hst
              have hb2 := hbel.setCell (p := ⟨g, k, none⟩) (by rw [HG.out]; exact Nat.le_refl _) (.int .u32 (IntKind.u64.wrap (IntKind.u64.wrap (-1) - (v : Int)) % 4294967296))
              have HST := Lib.hid hst
              clear hown hst
              go_wp2_with fail
              go_roundw
              case rel => exact ⟨k + 1, 1, _, by go_num, congrArg (Value.int .u64) (by rw [sub_two, sub_top (by omega) (by omega)]; rfl), by omega, by omega, subIs_step HS HU.out HV.out (by unfold W32; omega) (by unfold W32; omega), HST.out, hb2⟩
              case measure => simp [intOf]; omega
            · have _t := trivial
              have hst := hown.store (j := k) (x := u + 4294967296 - bw - v) (by unfold W32; omega)
              rw [set_end s (n - (k + 1)) _ HS.1, show ((u + 4294967296 - bw - v : Nat) : Int) = IntKind.u64.wrap ((u : Int) - bw - v) % 4294967296 from by rw [sub_low (by omega) (by omega)]; omega] at hst
              have hb2 := hbel.setCell (p := ⟨g, k, none⟩) (by rw [HG.out]; exact Nat.le_refl _) (.int .u32 (IntKind.u64.wrap ((u : Int) - bw - v) % 4294967296))
              have HST := Lib.hid hst
              clear hown hst
              go_wp2_with fail
              go_roundw
              case rel => exact ⟨k + 1, 1, _, by go_num, congrArg (Value.int .u64) (by rw [sub_top (by omega) (by omega)]; rfl), by omega, by omega, subIs_step HS HU.out HV.out (by unfold W32; omega) (by unfold W32; omega), HST.out, hb2⟩
              case measure => simp [intOf]; omega
          · have hst := hown.store (j := k) (x := u - bw - v) (by unfold W32; omega)
            rw [set_end s (n - (k + 1)) _ HS.1, show (((u - bw - v) : Nat) : Int) = (u : Int) - bw - v from by omega] at hst
            have hb2 := hbel.setCell (p := ⟨g, k, none⟩) (by rw [HG.out]; exact Nat.le_refl _) (.int .u32 ((u : Int) - bw - v))
            have HST := Lib.hid hst
            clear hown hst
            go_wp2_with fail
            go_roundw
            case rel => exact ⟨k + 1, 0, _, by go_num, congrArg (Value.int .u64) (by omega), by omega, by omega, subIs_step HS HU.out HV.out (by unfold W32; omega) (by omega), HST.out, hb2⟩
            case measure => simp [intOf]; omega
        · have hV : nth (dig y) k = 0 := nth_of_ge (by rw [length_dig, HLY.out]; exact hkm)
          have HV := Lib.hid hV; clear hV
          rcases Nat.lt_or_ge u bw with h | h
          · obtain rfl : u = 0 := by omega
            obtain rfl : bw = 1 := by omega
            have hst := hown.store (j := k) (x := 4294967295) (by unfold W32; omega)
            rw [set_end s (n - (k + 1)) _ HS.1, show ((4294967295 : Nat) : Int) = IntKind.u64.wrap (-1) % 4294967296 from by rw [sub_low (by omega) (by omega)]; rfl] at hst
            have hb2 := hbel.setCell (p := ⟨g, k, none⟩) (by rw [HG.out]; exact Nat.le_refl _) (.int .u32 (IntKind.u64.wrap (-1) % 4294967296))
            have HST := Lib.hid hst
            clear hown hst
            go_wp2_with fail
            go_roundw
            case rel => exact ⟨k + 1, 1, _, by go_num, congrArg (Value.int .u64) (by rw [sub_top (by omega) (by omega)]; rfl), by omega, by omega, subIs_step HS HU.out HV.out (by unfold W32; omega) (by unfold W32; omega), HST.out, hb2⟩
            case measure => simp [intOf]; omega
          · have hst := hown.store (j := k) (x := u - bw) (by unfold W32; omega)
            rw [set_end s (n - (k + 1)) _ HS.1, show (((u - bw) : Nat) : Int) = (u : Int) - bw from by omega] at hst
            have hb2 := hbel.setCell (p := ⟨g, k, none⟩) (by rw [HG.out]; exact Nat.le_refl _) (.int .u32 ((u : Int) - bw))
            have HST := Lib.hid hst
            clear hown hst
            go_wp2_with fail
            go_roundw
            case rel => exact ⟨k + 1, 0, _, by go_num, congrArg (Value.int .u64) (by omega), by omega, by omega, subIs_step HS HU.out HV.out (by unfold W32; omega) (by omega), HST.out, hb2⟩
            case measure => simp [intOf]; omega

end Go.Proofs.YtajegednakenbaaDoor
