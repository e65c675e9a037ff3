/- Walks: the reference's Sub, Less. -/
import Derived.Test.YtajegednakenbaaDoorRefB
import Derived.Test.YtajegednakenbaaDoorNatD
namespace Go.Proofs.YtajegednakenbaaDoor
open Go.RowKit
set_option linter.unusedVariables false
set_option linter.unusedSimpArgs false

set_option maxHeartbeats 400000 in
theorem rsub_any (x y : Nat) (va vb : Value) (w : World) (ha : IsN w va x) (hb : IsN w vb y) (hx : len x ≤ 1099511627776) :
    Calls Tryd.prog 70 #[va, vb] w (RetSub w x y) := by
  obtain ⟨A, n, c, rfl, ha⟩ := ha
  obtain ⟨B, m, d, rfl, hb⟩ := hb
  have HC := rcmp_any _ _ A B n c m d w ha hb
  rw [val_dig, val_dig] at HC
  have HCMP := Lib.hid HC; clear HC
  have hlx : len x = n := ha.len
  have hly : len y = m := hb.len
  have hn : n ≤ 1099511627776 := by omega
  have HLX := Lib.hid hlx; clear hlx
  have HLY := Lib.hid hly; clear hly
  rcases Nat.lt_or_ge x y with hlt | hge
  · have HLT := Lib.hid hlt
    have HE := Lib.hid (cmpI_lt (a := (x : Int)) (b := y) (by omega))
    clear hlt
    go_enter Tryd.func70, Tryd.ntmps70
    go_wp2_with fail
    refine HCMP.out.mono ?_
    rintro e w' ⟨rfl, rfl⟩
    rw [HE.out]
    go_wp2_with fail
    go_ret2
    exact retSub_no HLT.out (Below.refl _ w)
  · have HGE := Lib.hid hge
    have hcm : 0 ≤ cmpI (x : Int) (y : Int) := by
      unfold cmpI; rw [if_neg (by omega)]; split <;> omega
    clear hge
    generalize cmpI (x : Int) (y : Int) = cc at *
    have hcd : decide (cc < 0) = false := by simp; omega
    obtain ⟨g, hg⟩ : ∃ g, g = w.heap.size := ⟨_, rfl⟩
    have HG := Lib.hid hg; clear hg
    go_enter Tryd.func70, Tryd.ntmps70
    go_wp2_with fail
    refine HCMP.out.mono ?_
    rintro e w' ⟨rfl, rfl⟩
    go_wp2_with fail
    go_loopw [6, 7, 8] (fun o t i wr => ∃ (k bw : Nat) (s : List Nat), i = .int .i64 k ∧ t = .int .u64 bw ∧ bw ≤ 1 ∧ k ≤ n ∧ SubIs x y s k bw ∧ Own wr g o s ∧ Below w.heap.size w wr) (fun _ _ i _ => n - (intOf i).toNat)
    case atStart => exact ⟨0, 0, [], rfl, rfl, by omega, by omega, subIs_zero x y, Own.nil _ _, Below.refl _ _⟩
    case round =>
      obtain ⟨k, bw, s, rfl, rfl, hbw, hk, HS, hown, hbel⟩ := hrel
      rcases Nat.eq_or_lt_of_le hk with hke | hk
      · have H := hown.form
        obtain ⟨C, cc', rfl, hsl, _⟩ := H
        have HR := Lib.hid (rtrim_any s C _ cc' wr hsl (by rw [HS.1]; omega))
        have HE := Lib.hid (subIs_end HS (by rw [HLX.out]; omega) HGE.out)
        have hkk : n ≤ k := by omega
        clear hke
        go_wp2_with fail
        refine HR.out.mono ?_
        rintro e w' ⟨v, rfl, hv⟩
        go_wp2_with fail
        go_ret2
        exact retSub_yes HGE.out (by rw [← HE.out]; exact hv.own.base_le hbel.size) (hbel.trans (hv.below.mono hbel.size))
      · have H1 := at_any _ k A n c wr (ha.mono hbel)
        have H2 := at_any _ k B m d wr (hb.mono hbel)
        have hu := (small_dig x).get k
        have hv := (small_dig y).get k
        obtain ⟨u, hue⟩ : ∃ u, nth (dig x) k = u := ⟨_, rfl⟩
        obtain ⟨v, hve⟩ : ∃ v, nth (dig y) k = v := ⟨_, rfl⟩
        rw [hue] at H1 hu
        rw [hve] at H2 hv
        rw [W32_eq] at hu hv
        have HA := Lib.hid H1; clear H1
        have HB := Lib.hid H2; clear H2
        have HU := Lib.hid hue; clear hue
        have HV := Lib.hid hve; clear hve
        have hbs := hbel.size
        have hgw : g ≤ wr.heap.size := by rw [HG.out]; exact hbs
        have hsl : s.length ≤ 1099511627776 := by rw [HS.1]; omega
        rcases Nat.lt_or_ge u (v + bw) with h | h
        · have hlt : (u : Int) < v + bw := by omega
          have hcl : (wr.alloc (.cells #[.int .u32 ((u : Int) + 4294967296 - (v + bw))] 34)).cell? ⟨wr.heap.size, 0, none⟩ = some (.int .u32 ((u + 4294967296 - (v + bw) : Nat) : Int)) := by
            rw [show ((u + 4294967296 - (v + bw) : Nat) : Int) = (u : Int) + 4294967296 - (v + bw) from by omega]
            simp
          have HCL := Lib.hid hcl; clear hcl
          go_wp2_with fail
          refine HA.out.mono ?_; rintro e w' ⟨rfl, rfl⟩
          go_wp2_with fail
          refine HB.out.mono ?_; rintro e w' ⟨rfl, rfl⟩
          go_wp2_with (at_builtin; refine wp_app1 _ rfl _ _ rfl g _ s rfl (hown.alloc _) wr.heap.size (u + 4294967296 - (v + bw)) rfl HCL.out (by unfold W32; omega) (by omega) (by simp; omega) ?_)
          intro o2 w2 h2 g2
          have hb2 := (hbel.alloc hbs (.cells #[.int .u32 ((u : Int) + 4294967296 - (v + bw))] 34)).grown g2 (by simp; omega) (fun kk hkk => by rw [← HG.out]; exact hown.blockGe kk hkk)
          have H2' := Lib.hid h2; clear h2 g2
          go_wp2_with fail
          go_roundw
          case rel => exact ⟨k + 1, 1, _, by go_num, rfl, by omega, by omega, subIs_step HS HU.out HV.out (by unfold W32; omega) (by unfold W32; omega), H2'.out, hb2⟩
          case measure => simp [intOf]; omega
        · have hlt : ¬ (u : Int) < v + bw := by omega
          have hcl : (wr.alloc (.cells #[.int .u32 ((u : Int) - (v + bw))] 34)).cell? ⟨wr.heap.size, 0, none⟩ = some (.int .u32 ((u - (v + bw) : Nat) : Int)) := by
            rw [show ((u - (v + bw) : Nat) : Int) = (u : Int) - (v + bw) from by omega]
            simp
          have HCL := Lib.hid hcl; clear hcl
          go_wp2_with fail
          refine HA.out.mono ?_; rintro e w' ⟨rfl, rfl⟩
          go_wp2_with fail
          refine HB.out.mono ?_; rintro e w' ⟨rfl, rfl⟩
          go_wp2_with (at_builtin; refine wp_app1 _ rfl _ _ rfl g _ s rfl (hown.alloc _) wr.heap.size (u - (v + bw)) rfl HCL.out (by unfold W32; omega) (by omega) (by simp; omega) ?_)
          intro o2 w2 h2 g2
          have hb2 := (hbel.alloc hbs (.cells #[.int .u32 ((u : Int) - (v + bw))] 34)).grown g2 (by simp; omega) (fun kk hkk => by rw [← HG.out]; exact hown.blockGe kk hkk)
          have H2' := Lib.hid h2; clear h2 g2
          go_wp2_with fail
          go_roundw
          case rel => exact ⟨k + 1, 0, _, by go_num, rfl, by omega, by omega, subIs_step HS HU.out HV.out (by unfold W32; omega) (by omega), H2'.out, hb2⟩
          case measure => simp [intOf]; omega

theorem rless_any (x y : Nat) (va vb : Value) (w : World) (ha : IsN w va x) (hb : IsN w vb y) (hx : len x ≤ 1099511627776) (hyx : y ≤ x) :
    Calls Tryd.prog 56 #[va, vb] w (RetN w (x - y)) := by
  have HS := Lib.hid (rsub_any x y va vb w ha hb hx)
  have HYX := Lib.hid hyx; clear hyx
  go_enter Tryd.func56, Tryd.ntmps56
  go_wp2_with fail
  refine HS.out.mono ?_
  rintro e w' ⟨v, rfl, hv⟩
  rw [if_pos HYX.out] at hv
  have HV := Lib.hid hv; clear hv
  go_wp2_with fail
  go_ret
  exact ⟨_, rfl, HV.out⟩

end Go.Proofs.YtajegednakenbaaDoor
