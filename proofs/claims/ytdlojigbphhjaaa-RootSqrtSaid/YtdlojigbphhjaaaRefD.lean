/- Walks: the reference's Shl, Shr, Low, Bit, Bits, Zeros; the mill's Nat and Mod. -/
import Derived.Test.YtdlojigbphhjaaaRefC
import Derived.Test.YtdlojigbphhjaaaNatG
namespace Go.Proofs.Ytdlojigbphhjaaa
open Go.RowKit

set_option maxHeartbeats 400000 in
theorem rshl_any (x q l : Nat) (va : Value) (w : World) (ha : IsN w va x) (hx : len x ≤ 1099511627776) (hl : l < 32) (hn : 32 * q + l ≤ 1099511627776) :
    Calls Try.prog 58 #[va, .int .i64 ((32 * q + l : Nat) : Int)] w (RetN w (x * 2 ^ (32 * q + l))) := by
  obtain ⟨A, n, c, rfl, ha⟩ := ha
  have hlx : len x = n := ha.len
  have hn40 : n ≤ 1099511627776 := by omega
  have HLX := Lib.hid hlx; clear hlx
  obtain ⟨k, hk⟩ : ∃ k : Nat, k = 32 * q + l := ⟨_, rfl⟩
  have h1 : (k : Int) / 32 = (q : Int) := by omega
  have h2 : (k : Int) % 32 = (l : Int) := by omega
  have hq40 : q ≤ 1099511627776 := by omega
  rw [← hk] at hn ⊢
  have HK := Lib.hid hk; clear hk
  obtain ⟨g, hg⟩ : ∃ g, g = w.heap.size := ⟨_, rfl⟩
  have HG := Lib.hid hg; clear hg
  go_enter Try.func58, Try.ntmps58
  go_wp2_with (at_make; refine wp_mk _ rfl _ _ rfl w.heap.size _ _ q rfl rfl (by omega) (by omega) (by omega) (Nat.le_refl _) ?_)
  intro w1 o1 g1
  rw [← HG.out] at o1 ⊢
  have b1 : Below w.heap.size w w1 := (Below.refl _ _).grown g1 (Nat.le_refl _) (fun k h => by cases h)
  clear g1
  go_wp2_with fail
  go_loopw [5, 6, 7] (fun o t i wr => ∃ (j cy : Nat) (p : List Nat), i = .int .i64 j ∧ t = .int .u64 cy ∧ j ≤ n + 1 ∧ ShlIs x q l p j cy ∧ Own wr g o p ∧ Below w.heap.size w wr) (fun _ _ i _ => n + 1 - (intOf i).toNat)
  case atStart => exact ⟨0, 0, List.replicate q 0, rfl, rfl, by omega, shlIs_zero x q l, o1, b1⟩
  case round =>
    obtain ⟨j, cy, p, rfl, rfl, hj, HS, hown, hbel⟩ := hrel
    clear o1 b1
    have hcy32 : cy < 4294967296 := Nat.lt_of_lt_of_le HS.2.2.1 (Nat.pow_le_pow_right (n := 2) (by omega) (show l ≤ 32 by omega))
    have hpl : p.length ≤ 4398046511104 := by rw [HS.1]; omega
    rcases Nat.eq_or_lt_of_le hj with hje | hjn
    · have H := hown.form
      obtain ⟨C, cc, rfl, hsl, _⟩ := H
      have HR := Lib.hid (rtrim_any p C _ cc wr hsl (by omega))
      have HE := Lib.hid (shlIs_end2 HS (by rw [HLX.out]; omega) (by omega))
      have hjj : n + 1 ≤ j := by omega
      clear hje
      go_wp2_with fail
      refine HR.out.mono ?_
      rintro e w' ⟨v, rfl, hv⟩
      go_wp2_with fail
      go_ret
      refine ⟨_, rfl, ?_, hbel.trans (hv.below.mono hbel.size)⟩
      rw [HK.out, ← HE.out]
      exact hv.own.base_le hbel.size
    · have H1 := at_any _ j A n c wr (ha.mono hbel)
      have hu := (small_dig x).get j
      obtain ⟨u, hue⟩ : ∃ u, nth (dig x) j = u := ⟨_, rfl⟩
      rw [hue] at H1 hu
      rw [W32_eq] at hu
      have HA := Lib.hid H1; clear H1
      have hbs := hbel.size
      have hgw : g ≤ wr.heap.size := by rw [HG.out]; exact hbs
      have HS2 := Lib.hid (shlIs_step HS hue hu)
      have hwide : u * 2 ^ l < 18446744073709551616 := by
        have := Nat.mul_lt_mul_of_lt_of_le hu (Nat.le_of_lt (Nat.pow_lt_pow_right (a := 2) (by omega) hl)) (by omega : 0 < 2 ^ 32)
        omega
      have E0 : bits .or .u64 (IntKind.u64.wrap ((u : Int) * 2 ^ l)) (cy : Int) = ((cy + 2 ^ l * u : Nat) : Int) := by
        rw [wrap_shl hu hl, u64_or_nat _ _ hwide (by omega), shl_or64 HS.2.2.1]
      have hcl : (wr.alloc (.cells #[.int .u32 (bits .or .u64 (IntKind.u64.wrap ((u : Int) * 2 ^ l)) (cy : Int) % 4294967296)] 43)).cell? ⟨wr.heap.size, 0, none⟩ = some (.int .u32 (((cy + 2 ^ l * u) % W32 : Nat) : Int)) := by
        rw [E0, show (((cy + 2 ^ l * u) % W32 : Nat) : Int) = ((cy + 2 ^ l * u : Nat) : Int) % 4294967296 from by unfold W32; omega]
        simp
      have HCL := Lib.hid hcl; clear hcl
      have HE0 := Lib.hid E0; clear E0
      clear hue hwide
      go_wp2_with fail
      refine HA.out.mono ?_; rintro e w' ⟨rfl, rfl⟩
      go_wp2_with (at_builtin; refine wp_app1 _ rfl _ _ rfl g _ p rfl (hown.alloc _) wr.heap.size ((cy + 2 ^ l * u) % W32) rfl HCL.out (Nat.mod_lt _ W32_pos) (by omega) (by simp; omega) ?_)
      intro o2 w2 h2 g2
      have hb2 := (hbel.alloc hbs (.cells #[.int .u32 (bits .or .u64 (IntKind.u64.wrap ((u : Int) * 2 ^ l)) (cy : Int) % 4294967296)] 43)).grown g2 (by simp; omega) (fun kk hkk => by rw [← HG.out]; exact hown.blockGe kk hkk)
      have H2' := Lib.hid h2; clear h2 g2
      go_wp2_with fail
      go_roundw
      case rel => exact ⟨j + 1, (cy + 2 ^ l * u) / W32, _, by go_num, congrArg (Value.int .u64) (by rw [HE0.out]; unfold W32; omega), by omega, HS2.out, H2'.out, hb2⟩
      case measure => simp [intOf]; omega

end Go.Proofs.Ytdlojigbphhjaaa
