/- Walks: nat.Shl, nat.Shr, nat.Low. -/
import Derived.Test.YtajegednakenbaaDoorNatD
namespace Go.Proofs.YtajegednakenbaaDoor
open Go.RowKit
set_option linter.unusedVariables false
set_option linter.unusedSimpArgs false

set_option maxHeartbeats 400000 in
theorem shl_any (x q l : Nat) (va : Value) (w : World) (ha : IsN w va x) (hx : len x ≤ 1099511627776) (hl : l < 32) (hn : 32 * q + l ≤ 1048576) :
    Calls Tryd.prog 61 #[va, .int .i64 ((32 * q + l : Nat) : Int)] w (RetN w (x * 2 ^ (32 * q + l))) := by
  obtain ⟨A, n, c, rfl, ha⟩ := ha
  have HC := length_any _ A n c w ha
  rw [trim_dig, ha.len] at HC
  have HL := Lib.hid HC; clear HC
  have hlx : len x = n := ha.len
  have hn40 : n ≤ 1099511627776 := by omega
  have HLX := Lib.hid hlx; clear hlx
  obtain ⟨k, hk⟩ : ∃ k : Nat, k = 32 * q + l := ⟨_, rfl⟩
  have h1 : (k : Int) / 32 = (q : Int) := by omega
  have h2 : (k : Int) % 32 = (l : Int) := by omega
  rw [← hk] at hn ⊢
  have HK := Lib.hid hk; clear hk
  obtain ⟨g, hg⟩ : ∃ g, g = w.heap.size := ⟨_, rfl⟩
  rcases Nat.eq_zero_or_pos n with h0 | h0
  · have hz : x = 0 := len_eq_zero (by rw [HLX.out]; exact h0)
    subst h0; subst hz
    clear hg HK h1 h2
    have e : 0 * 2 ^ k = 0 := Nat.zero_mul _
    rw [e]
    clear e
    go_enter Tryd.func61, Tryd.ntmps61
    go_wp2_with (go_at_call 66; refine HL.out.mono ?_; rintro e w' ⟨rfl, rfl⟩)
    go_ret
    exact ⟨_, rfl, by rw [dig_zero]; exact Own.nil _ _, Below.refl _ _⟩
  · have hnz : ((n : Int) == 0) = false := by rw [beq_eq_false_iff_ne]; omega
    have hcap := ha.cap
    have HG := Lib.hid hg; clear hg
    go_enter Tryd.func61, Tryd.ntmps61
    go_wp2_with (first
      | (go_at_call 66; refine HL.out.mono ?_; rintro e w' ⟨rfl, rfl⟩)
      | (at_make; refine wp_mk _ rfl _ _ rfl w.heap.size _ _ (q + n + 1) rfl rfl (by omega) (by omega) (by omega) (Nat.le_refl _) ?_))
    intro w1 o1 g1
    rw [← HG.out] at o1 ⊢
    have b1 : Below w.heap.size w w1 := (Below.refl _ _).grown g1 (Nat.le_refl _) (fun k h => by cases h)
    clear g1
    have hdn : (decide ((k : Int) < 0)) = false := by simp
    have hd2 : (decide ((1048576 : Int) < k)) = false := by simp; omega
    go_wp2_with fail
    go_loopw [37] (fun i wr => ∃ (j cy : Nat) (p : List Nat), i = .int .i64 j ∧ j ≤ n ∧ ShlIs x q l p j cy ∧ Own wr g (.slice (some ⟨g, 0, none⟩) (q + n + 1) (q + n + 1)) (p ++ [cy] ++ List.replicate (n - j) 0) ∧ Below w.heap.size w wr) (fun i _ => n - (intOf i).toNat)
    case atStart => exact ⟨0, 0, List.replicate q 0, rfl, by omega, shlIs_zero x q l, by rw [← List.replicate_succ', List.replicate_append_replicate, show q + 1 + (n - 0) = q + n + 1 from by omega]; exact o1, b1⟩
    case round =>
      obtain ⟨j, cy, p, rfl, hj, HS, hown, hbel⟩ := hrel
      clear o1 b1
      have hcy32 : cy < 4294967296 := Nat.lt_of_lt_of_le HS.2.2.1 (Nat.pow_le_pow_right (n := 2) (by omega) (show l ≤ 32 by omega))
      rcases Nat.eq_or_lt_of_le hj with hje | hjn
      · have hfree := hown.free (q + j)
        have hjn : n ≤ j := by omega
        rw [show n - j = 0 from by omega, List.replicate_zero, List.append_nil] at hown
        have H := length_any _ _ _ _ _ hown.sl
        have HT := Lib.hid (shlIs_end HS (by rw [HLX.out]; exact hjn) (show l ≤ 32 by omega))
        rw [HT.out] at H
        have hdl : (dig (x * 2 ^ (32 * q + l))).length ≤ q + n + 1 := by
          rw [← HT.out]
          have := length_trim_le (p ++ [cy])
          rw [List.length_append, HS.1] at this
          have h3 : [cy].length = 1 := rfl
          omega
        have hcut := hown.cut hdl
        rw [show (p ++ [cy]).take (dig (x * 2 ^ (32 * q + l))).length = dig (x * 2 ^ (32 * q + l)) by rw [← HT.out, trim_take], ← HK.out] at hcut
        rw [← HK.out] at hdl H
        obtain ⟨kk, hkk⟩ : ∃ kk, kk = (dig (x * 2 ^ k)).length := ⟨_, rfl⟩
        rw [← hkk] at hdl H
        have HKK := Lib.hid hkk; clear hkk
        have HL2 := Lib.hid H; clear H
        have HHcut := Lib.hid hcut; clear hcut
        clear hown hje
        go_wp2_with (go_at_call 66; refine HL2.out.mono ?_; rintro e w' ⟨rfl, rfl⟩)
        go_ret
        refine ⟨_, rfl, ?_, hbel⟩
        have := HHcut.out
        rw [← HKK.out] at this
        exact this.base_le (Nat.le_of_eq HG.out.symm)
      · obtain ⟨b, off, u, rfl, _, hxc, HU, hu⟩ := ha.get hbel (k := j) hjn
        have hf1 := hown.free (q + j)
        have hf2 := hown.free (q + j + 1)
        obtain ⟨z, hz, HZ, _⟩ := hown.cell (j := q + j) (by omega)
        obtain ⟨z2, hz2, HZ2, _⟩ := hown.cell (j := q + j + 1) (by omega)
        rw [show z = cy by rw [← HZ.out, nth_mid _ _ _ HS.1]] at hz
        have hor := shl_or (u := u) (show l ≤ 32 by omega) HS.2.2.1
        have hm1 : (u * 2 ^ l) % W32 < 4294967296 := Nat.mod_lt _ W32_pos
        have E1 : bits .or .u32 (cy : Int) (IntKind.u64.wrap ((u : Int) * 2 ^ l) % 4294967296) = (((cy + 2 ^ l * u) % W32 : Nat) : Int) := by
          rw [wrap_shl hu hl, show ((u * 2 ^ l : Nat) : Int) % 4294967296 = (((u * 2 ^ l) % W32 : Nat) : Int) from by unfold W32; omega, or_u32 _ _ hcy32 hm1, hor.1]
        have hst1 := hown.store (j := q + j) (x := (cy + 2 ^ l * u) % W32) (Nat.mod_lt _ W32_pos)
        rw [set_mid _ _ _ _ HS.1, show n - j = (n - (j + 1)) + 1 from by omega] at hst1
        have HS2 := shlIs_step HS HU.out hu
        have hc2 : (cy + 2 ^ l * u) / W32 < W32 := Nat.lt_of_lt_of_le HS2.2.2.1 (by unfold W32; exact Nat.pow_le_pow_right (n := 2) (by omega) (show l ≤ 32 by omega))
        have E2 : IntKind.u64.wrap ((u : Int) * 2 ^ l) / 4294967296 % 4294967296 = (((cy + 2 ^ l * u) / W32 : Nat) : Int) := by
          rw [wrap_shl hu hl, ← hor.2]
          rw [← hor.2] at hc2
          unfold W32 at hc2 ⊢
          omega
        have hst2 := hst1.store (j := q + j + 1) (x := (cy + 2 ^ l * u) / W32) hc2
        rw [set_end _ _ _ (show (p ++ [(cy + 2 ^ l * u) % W32]).length = q + j + 1 from HS2.1), ← E1, ← E2] at hst2
        have hb2 := (hbel.setCell (p := ⟨g, q + j, none⟩) (by rw [HG.out]; exact Nat.le_refl _) (.int .u32 (bits .or .u32 (cy : Int) (IntKind.u64.wrap ((u : Int) * 2 ^ l) % 4294967296)))).setCell (p := ⟨g, q + j + 1, none⟩) (by rw [HG.out]; exact Nat.le_refl _) (.int .u32 (IntKind.u64.wrap ((u : Int) * 2 ^ l) / 4294967296 % 4294967296))
        have HST := Lib.hid hst2
        have HS2' := Lib.hid HS2
        clear hown hst1 hst2 E1 E2 hc2 hor hm1 HS2
        go_wp2_with fail
        go_roundw
        case rel => exact ⟨j + 1, _, _, by go_num, by omega, HS2'.out, HST.out, hb2⟩
        case measure => simp [intOf]; omega

end Go.Proofs.YtajegednakenbaaDoor
