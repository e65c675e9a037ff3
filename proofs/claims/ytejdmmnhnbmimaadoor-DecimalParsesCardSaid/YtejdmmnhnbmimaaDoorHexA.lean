/- decimal.Hex and Unhex. -/
import Derived.Test.YtejdmmnhnbmimaaDoorHexMath
import Derived.Test.YtejdmmnhnbmimaaDoorRev
namespace Go.Proofs.YtejdmmnhnbmimaaDoor
open Go.RowKit
set_option linter.unusedVariables false
set_option linter.unusedSimpArgs false
set_option maxRecDepth 8000



set_option maxHeartbeats 400000 in
theorem hex_any (x : Nat) (w : World) (hx : x < 18446744073709551616) :
    Calls Tryd.prog 22 #[.int .u64 (x : Int)] w (RetS w (hexT x)) := by
  obtain ⟨L, hL⟩ : ∃ L, L = hexT x := ⟨_, rfl⟩
  rw [← hL]
  have HL := Lib.hid hL; clear hL
  go_enter Tryd.func22, Tryd.ntmps22
  go_wp2_with fail
  go_loopw [0, 3, 4] (fun a rv i wr => ∃ (k y : Nat), i = .int .i64 k ∧ k ≤ 16 ∧ a = .int .u64 y ∧ Hid (y = x / 16 ^ k) ∧ y < 18446744073709551616 ∧ OwnB wr w.heap.size rv (lh k x) ∧ Below w.heap.size w wr) (fun _ _ i _ => 16 - (intOf i).toNat)
  case atStart => exact ⟨0, x, rfl, by omega, rfl, (show x = x / 16 ^ 0 by rw [Nat.pow_zero, Nat.div_one]), hx, OwnB.nil _ _, Below.refl _ _⟩
  case round =>
    obtain ⟨k, y, rfl, hk, rfl, HY, hy, hown, hbe⟩ := hrel
    have hbs := hbe.size
    have hlen := lh_length k x
    obtain ⟨B, cb, rfl, _, _, hB⟩ := hown.form
    rw [hlen] at hown ⊢
    rcases Nat.eq_or_lt_of_le hk with rfl | hk16
    · rcases hB with ⟨_, hnil⟩ | ⟨g, rfl, hg1, _⟩
      · rw [hnil] at hlen; simp at hlen
      · have HR := Lib.hid (reverse_any _ g 16 cb w wr hbe hown hg1 (by omega))
        clear hown hbe hlen
        go_wp2_with fail
        refine HR.out.mono ?_
        rintro e w' ⟨rfl, o3, b3⟩
        have hcv := o3.conv
        rw [← hexT, ← HL.out] at hcv
        go_wp2_with fail
        go_ret
        exact ⟨rfl, b3⟩
    · clear hB
      obtain ⟨d, hd⟩ : ∃ d, d = y % 16 := ⟨_, rfl⟩
      have hd16 : d < 16 := by omega
      have ed : (y : Int) % 16 = (d : Int) := by omega
      obtain ⟨c, hc⟩ : ∃ c, c = hexd d := ⟨_, rfl⟩
      have hc2 : c < 256 := by rw [hc]; exact hexd_lt hd16
      have hget := hex_get d hd16
      rw [← hc] at hget
      have HN := Lib.hid (show lh k x ++ [c] = lh (k + 1) x by rw [lh_snoc, hc, hd, HY.out])
      have HY2 := Lib.hid (show y / 16 = x / 16 ^ (k + 1) by rw [HY.out, Nat.pow_succ, Nat.div_div_eq_div_mul])
      have hcl : (wr.alloc (.cells #[.int .u8 (c : Int)] 5)).cell? ⟨wr.heap.size, 0, none⟩ = some (.int .u8 (c : Int)) := by simp
      have HCL := Lib.hid hcl
      clear hcl hd hc
      go_wp2_with (at_builtin; refine wp_app1B _ rfl _ _ rfl w.heap.size _ (lh k x) rfl (hown.alloc _) wr.heap.size c rfl HCL.out hc2 (by rw [hlen]; omega) (by simp; omega) ?_)
      intro o2 w3 h2 g2
      have hb3 := (hbe.alloc hbs (.cells #[.int .u8 (c : Int)] 5)).grown g2 (by simp; omega) (fun kk hkk => hown.blockGe kk hkk)
      rw [HN.out] at h2
      have H2 := Lib.hid h2
      clear hown hbe h2 g2
      go_wp2_with fail
      go_roundw
      case rel => exact ⟨k + 1, y / 16, by go_num, by omega, by congr 1, HY2.out, by omega, H2.out, hb3⟩
      case measure => simp [intOf]; omega

def RetHx (w : World) (x : Nat) (er : Int) (e : Ending) (w' : World) : Prop := e = .returned (.tuple #[.int .u64 (x : Int), .int .i64 er]) ∧ w = w'
set_option maxHeartbeats 400000 in
theorem unhex_any (l : List Nat) (w : World) (hb : Byt l) (hl : l.length ≤ 1000000) :
    Calls Tryd.prog 23 #[.string (str l)] w (RetHx w (valH l) (errH l)) := by
  have hsz := str_size l
  obtain ⟨n, hn⟩ : ∃ n, l.length = n := ⟨_, rfl⟩
  rw [hn] at hsz hl
  have HN := Lib.hid hn
  clear hn
  by_cases h16 : n = 16
  · subst h16
    refine Calls.mono (R := fun e w' => (okH l = true ∧ e = .returned (.tuple #[.int .u64 ((unh l : Nat) : Int), .int .i64 0]) ∨ okH l = false ∧ e = .returned (.tuple #[.int .u64 0, .int .i64 6])) ∧ w = w') ?_ ?_
    · go_enter Tryd.func23, Tryd.ntmps23
      go_wp2_with fail
      go_loop [4, 12] (fun a i => ∃ (k y : Nat), i = .int .i64 k ∧ k ≤ 16 ∧ a = .int .u64 y ∧ Hid (y = unh (l.take k)) ∧ Hid ((l.take k).all isH = true)) (fun _ i => 16 - (intOf i).toNat)
      case atStart => exact ⟨0, 0, rfl, by omega, rfl, rfl, rfl⟩
      case round =>
        obtain ⟨k, y, rfl, hk, rfl, HY, HA⟩ := hrel
        rcases Nat.eq_or_lt_of_le hk with rfl | hk16
        · go_wp2_with fail
          go_ret2
          have e1 : l.take 16 = l := List.take_of_length_le (by rw [HN.out]; omega)
          refine ⟨.inl ⟨okH_good (by have := HA.out; rwa [e1] at this) HN.out, ?_⟩, rfl⟩
          rw [HY.out, e1]
          rfl
        · obtain ⟨c, hc⟩ : ∃ c, nth l k = c := ⟨_, rfl⟩
          have hc2 : c < 256 := by rw [← hc]; exact byt_get hb k
          have hget : ∀ h, ((str l)[k]'h).toNat = c := fun h => (str_get hb k h).trans hc
          have HIX := Lib.hid (ix_any c w hc2)
          have hyb : y < 16 ^ 16 := by
            rw [HY.out]
            have h1 := unh_lt HA.out
            have h2 : (l.take k).length ≤ 15 := by rw [List.length_take]; omega
            exact Nat.lt_of_lt_of_le h1 (Nat.pow_le_pow_right (by decide) (by omega))
          have hyb2 : y < 1152921504606846976 := by
            rw [HY.out]
            have h1 := unh_lt HA.out
            have h2 : (l.take k).length ≤ 15 := by rw [List.length_take]; omega
            exact Nat.lt_of_lt_of_le h1 (Nat.le_trans (Nat.pow_le_pow_right (by decide) h2) (by decide))
          have hix1 := hix_lt c
          have hix2 := hix_ge c
          have HCC := Lib.hid hc
          clear hc hyb
          by_cases hneg : hix c = -1
          · have HF := Lib.hid (show l.all isH = false from not_all (k := k) (by rw [HN.out]; exact hk16) (by rw [HCC.out]; unfold isH; rw [hneg]; rfl))
            rw [hneg] at HIX
            clear hneg hix1 hix2
            go_wp2_with fail
            refine HIX.out.mono ?_
            rintro e w' ⟨rfl, rfl⟩
            go_wp2_with fail
            go_ret2
            exact ⟨.inr ⟨okH_bad HF.out, rfl⟩, rfl⟩
          · obtain ⟨d, hd⟩ : ∃ d : Nat, hix c = (d : Int) := ⟨(hix c).toNat, by omega⟩
            have HT := Lib.hid (show (l.take (k + 1)).all isH = true from all_take HA.out (by rw [HN.out]; exact hk16) (by rw [HCC.out]; unfold isH; rw [hd]; exact decide_eq_true (by omega)))
            have HU := Lib.hid (show y * 16 + d = unh (l.take (k + 1)) by rw [take_snoc (by rw [HN.out]; exact hk16), unh_snoc, HCC.out, hd, HY.out]; omega)
            rw [hd] at HIX hix1
            clear hd hneg hix2
            go_wp2_with fail
            refine HIX.out.mono ?_
            rintro e w' ⟨rfl, rfl⟩
            go_wp2_with fail
            go_round
            case rel => exact ⟨k + 1, y * 16 + d, by go_num, by omega, by go_num, HU.out, HT.out⟩
            case measure => simp [intOf]; omega
    · rintro e w' ⟨h, rfl⟩
      rcases h with ⟨h, rfl⟩ | ⟨h, rfl⟩
      · obtain ⟨e1, e2⟩ := errH_yes h
        exact ⟨by rw [e1, e2], rfl⟩
      · obtain ⟨e1, e2⟩ := errH_no h
        exact ⟨by rw [e1, e2]; rfl, rfl⟩
  · obtain ⟨e1, e2⟩ := errH_no (okH_len (l := l) (by rw [HN.out]; exact h16))
    rw [e1, e2]
    have hne : ((n : Int) == 16) = false := by simp; omega
    go_enter Tryd.func23, Tryd.ntmps23
    go_wp2_with fail
    go_ret2
    exact ⟨rfl, rfl⟩

end Go.Proofs.YtejdmmnhnbmimaaDoor
