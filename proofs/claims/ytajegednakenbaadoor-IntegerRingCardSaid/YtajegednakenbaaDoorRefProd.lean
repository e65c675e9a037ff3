/- Walks: the reference's Small, Mul, Power. -/
import Derived.Test.YtajegednakenbaaDoorProdMath
import Derived.Test.YtajegednakenbaaDoorRefA
import Derived.Test.YtajegednakenbaaDoorLits
namespace Go.Proofs.YtajegednakenbaaDoor
open Go.RowKit
set_option linter.unusedVariables false
set_option linter.unusedSimpArgs false

set_option maxHeartbeats 1000000 in
theorem rmul_any (x y : Nat) (va vb : Value) (w : World) (ha : IsN w va x) (hb : IsN w vb y) (hx : len x ≤ 1099511627776) (hy : len y ≤ 1099511627776) :
    Calls Tryd.prog 58 #[va, vb] w (RetN w (x * y)) := by
  obtain ⟨A, n, c, rfl, ha⟩ := ha
  obtain ⟨B, m, d, rfl, hb⟩ := hb
  have hlx : len x = n := ha.len
  have hly : len y = m := hb.len
  have hn : n ≤ 1099511627776 := by omega
  have hm : m ≤ 1099511627776 := by omega
  have HLX := Lib.hid hlx; clear hlx
  have HLY := Lib.hid hly; clear hly
  go_enter Tryd.func58, Tryd.ntmps58
  go_wp2_with (at_make; refine wp_mk _ rfl _ _ rfl w.heap.size _ _ (n + m) rfl rfl (by omega) (by omega) (by omega) (Nat.le_refl _) ?_)
  intro w1 h1 g1
  have b1 : Below w.heap.size w w1 := (Below.refl _ _).grown g1 (Nat.le_refl _) (fun k h => by cases h)
  obtain ⟨g, hg⟩ : ∃ g, g = w.heap.size := ⟨_, rfl⟩
  rw [← hg] at h1 ⊢
  have HG := Lib.hid hg; clear hg
  clear g1
  have h0 : Own w1 g (.slice (some ⟨g, 0, none⟩) (n + m) (n + m)) (List.replicate (len y) 0 ++ List.replicate (n - 0) 0) := by
    rw [List.replicate_append_replicate, HLY.out, show m + (n - 0) = n + m from by omega]; exact h1
  clear h1
  go_wp2_with fail
  go_loopw [19] (fun i wr => ∃ (k : Nat) (q : List Nat), i = .int .i64 k ∧ k ≤ n ∧ MulIs x y k q ∧ Own wr g (.slice (some ⟨g, 0, none⟩) (n + m) (n + m)) (q ++ List.replicate (n - k) 0) ∧ Below w.heap.size w wr) (fun i _ => n - (intOf i).toNat)
  case atStart => exact ⟨0, _, rfl, by omega, mulIs_zero x y, h0, b1⟩
  case round =>
    obtain ⟨k, q, rfl, hk, HS, hown, hbe⟩ := hrel
    clear h0 b1
    rcases Nat.eq_or_lt_of_le hk with hke | hkn
    · have hkn : n ≤ k := by omega
      rw [show n - k = 0 from by omega, List.replicate_zero, List.append_nil] at hown
      have hl := HS.1
      have HTR := Lib.hid (rtrim_any q _ _ _ wr hown.sl (by omega))
      have HE := Lib.hid (mulIs_end HS (by rw [HLX.out]; exact hkn))
      clear hown hl hke
      go_wp2_with fail
      refine HTR.out.mono ?_
      rintro e w' ⟨v, rfl, o⟩
      go_wp2_with fail
      go_ret
      exact ⟨_, rfl, by rw [← HE.out]; exact o.own.base_le hbe.size, hbe.trans (o.below.mono hbe.size)⟩
    · obtain ⟨b, off, u, rfl, _, hxc, HU, hu⟩ := ha.get hbe (k := k) hkn
      obtain ⟨hl1, hl2⟩ := mulIs_len HS
      have HL1 := Lib.hid hl1
      have HL2 := Lib.hid hl2
      have hin : Own wr g (.slice (some ⟨g, 0, none⟩) (n + m) (n + m)) (q.take k ++ [] ++ (q.drop k).drop 0 ++ List.replicate (n - k) 0) := by
        rw [List.drop_zero, List.append_nil, List.take_append_drop]
        exact hown
      clear hown hl1 hl2
      obtain ⟨wo, hwo⟩ : ∃ wo : World, wo = wr := ⟨_, rfl⟩
      rw [← hwo] at hbe hin hxc ⊢
      clear hwo
      go_wp2_with fail
      go_loopw [8, 26] (fun t' i wr => ∃ (j cy : Nat) (s : List Nat), i = .int .i64 j ∧ t' = .int .u64 cy ∧ j ≤ m ∧ MulAdd (q.drop k) (dig y) u s j cy ∧ Own wr g (.slice (some ⟨g, 0, none⟩) (n + m) (n + m)) (q.take k ++ s ++ (q.drop k).drop j ++ List.replicate (n - k) 0) ∧ Below w.heap.size w wr) (fun _ i _ => m - (intOf i).toNat)
      case atStart => exact ⟨0, 0, [], rfl, rfl, by omega, mulAdd_zero _ _ _, hin, hbe⟩
      case round =>
        obtain ⟨j, cy, s, rfl, rfl, hj, HA, hown, hbe2⟩ := hrel
        clear hin hbe hxc
        have hcy : cy < 4294967296 := HA.2.2.1
        rcases Nat.eq_or_lt_of_le hj with rfl | hjm
        · rw [drop_all (show (q.drop k).length = j by rw [HL2.out, HLY.out]), List.append_nil] at hown
          have hfree := hown.free (k + j)
          obtain ⟨v0, hz, _, _⟩ := hown.cell (j := k + j) (by omega)
          have hst := hown.store (j := k + j) (x := cy) hcy
          rw [show n - k = n - (k + 1) + 1 from by omega, set_end _ _ _ (show (q.take k ++ s).length = k + j by rw [List.length_append, HL1.out, HA.1])] at hst
          have hb3 := hbe2.setCell (p := ⟨g, k + j, none⟩) (by rw [HG.out]; exact Nat.le_refl _) (.int .u32 (cy : Int))
          have HST := Lib.hid hst
          have HS2 := Lib.hid (mulIs_step HS HU.out (by rw [HLY.out]; exact HA))
          clear hst hown
          go_wp2_with fail
          go_roundw
          case rel => exact ⟨k + 1, _, by go_num, by omega, HS2.out, HST.out, hb3⟩
          case measure => simp [intOf]; omega
        · have hfree := hown.free (k + j)
          obtain ⟨v, hz, HV, hv⟩ := hown.cell (j := k + j) (by omega)
          obtain ⟨b', off', u', rfl, _, hyc, HU', hu'⟩ := hb.get hbe2 (k := j) hjm
          have hlt : j < (q.drop k).length := by rw [HL2.out, HLY.out]; exact hjm
          have hV : nth (q.drop k) j = v := by rw [← HV.out, nth_row HL1.out HA.1 hlt]
          obtain ⟨p, hp⟩ : ∃ p, p = u' * u := ⟨_, rfl⟩
          have hpb : p ≤ 18446744065119617025 := by rw [hp]; exact mul_digits hu' hu
          have hw : IntKind.u64.wrap ((u : Int) * (u' : Int)) = (p : Int) := by
            rw [← Int.natCast_mul, Nat.mul_comm, ← hp, IntKind.wrap_u64]
            omega
          have hst := hown.store (j := k + j) (x := (cy + (p + v)) % W32) (Nat.mod_lt _ W32_pos)
          rw [set_row _ HL1.out HA.1 hlt, show (((cy + (p + v)) % W32 : Nat) : Int) = ((cy : Int) + p + v) % 4294967296 from by unfold W32; omega] at hst
          have hb3 := hbe2.setCell (p := ⟨g, k + j, none⟩) (by rw [HG.out]; exact Nat.le_refl _) (.int .u32 (((cy : Int) + p + v) % 4294967296))
          have HST := Lib.hid hst
          have HA2 := Lib.hid (mulAdd_step HA HU'.out hV hp hu' hv hu)
          clear hown hst HV hV hp hlt
          go_wp2_with fail
          go_roundw
          case rel => exact ⟨j + 1, (cy + (p + v)) / W32, _, by go_num, congrArg (Value.int .u64) (by unfold W32; omega), by omega, HA2.out, HST.out, hb3⟩
          case measure => simp [intOf]; omega

end Go.Proofs.YtajegednakenbaaDoor
