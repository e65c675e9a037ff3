/- Walks: the reference's Shl, Shr, Low, Bit, Bits, Zeros; the mill's Nat and Mod. -/
import Derived.Test.YtajegednakenbaaDoorRefC
import Derived.Test.YtajegednakenbaaDoorNatG
namespace Go.Proofs.YtajegednakenbaaDoor
open Go.RowKit
set_option linter.unusedVariables false
set_option linter.unusedSimpArgs false

set_option maxHeartbeats 400000 in
theorem rshl_any (x q l : Nat) (va : Value) (w : World) (ha : IsN w va x) (hx : len x ≤ 1099511627776) (hl : l < 32) (hn : 32 * q + l ≤ 1099511627776) :
    Calls Tryd.prog 64 #[va, .int .i64 ((32 * q + l : Nat) : Int)] w (RetN w (x * 2 ^ (32 * q + l))) := by
  obtain ⟨A, n, c, rfl, ha⟩ := ha
  have hlx : len x = n := ha.len
  have hn40 : n ≤ 1099511627776 := by omega
  have HLX := Lib.hid hlx; clear hlx
  obtain ⟨k, hk⟩ : ∃ k : Nat, k = 32 * q + l := ⟨_, rfl⟩
  have h1 : (k : Int) / 32 = (q : Int) := by omega
  have h2 : (k : Int) % 32 = (l : Int) := by omega
  have hq40 : q ≤ 1099511627776 := by omega
  rw [← hk] at hn ⊢
  have HK := Lib.hid hk; clear hk
  obtain ⟨g, hg⟩ : ∃ g, g = w.heap.size := ⟨_, rfl⟩
  have HG := Lib.hid hg; clear hg
  go_enter Tryd.func64, Tryd.ntmps64
  go_wp2_with (at_make; refine wp_mk _ rfl _ _ rfl w.heap.size _ _ q rfl rfl (by omega) (by omega) (by omega) (Nat.le_refl _) ?_)
  intro w1 o1 g1
  rw [← HG.out] at o1 ⊢
  have b1 : Below w.heap.size w w1 := (Below.refl _ _).grown g1 (Nat.le_refl _) (fun k h => by cases h)
  clear g1
  go_wp2_with fail
  go_loopw [5, 6, 7] (fun o t i wr => ∃ (j cy : Nat) (p : List Nat), i = .int .i64 j ∧ t = .int .u64 cy ∧ j ≤ n + 1 ∧ ShlIs x q l p j cy ∧ Own wr g o p ∧ Below w.heap.size w wr) (fun _ _ i _ => n + 1 - (intOf i).toNat)
  case atStart => exact ⟨0, 0, List.replicate q 0, rfl, rfl, by omega, shlIs_zero x q l, o1, b1⟩
  case round =>
    obtain ⟨j, cy, p, rfl, rfl, hj, HS, hown, hbel⟩ := hrel
    clear o1 b1
    have hcy32 : cy < 4294967296 := Nat.lt_of_lt_of_le HS.2.2.1 (Nat.pow_le_pow_right (n := 2) (by omega) (show l ≤ 32 by omega))
    have hpl : p.length ≤ 4398046511104 := by rw [HS.1]; omega
    rcases Nat.eq_or_lt_of_le hj with hje | hjn
    · have H := hown.form
      obtain ⟨C, cc, rfl, hsl, _⟩ := H
      have HR := Lib.hid (rtrim_any p C _ cc wr hsl (by omega))
      have HE := Lib.hid (shlIs_end2 HS (by rw [HLX.out]; omega) (by omega))
      have hjj : n + 1 ≤ j := by omega
      clear hje
      go_wp2_with fail
      refine HR.out.mono ?_
      rintro e w' ⟨v, rfl, hv⟩
      go_wp2_with fail
      go_ret
      refine ⟨_, rfl, ?_, hbel.trans (hv.below.mono hbel.size)⟩
      rw [HK.out, ← HE.out]
      exact hv.own.base_le hbel.size
    · have H1 := at_any _ j A n c wr (ha.mono hbel)
      have hu := (small_dig x).get j
      obtain ⟨u, hue⟩ : ∃ u, nth (dig x) j = u := ⟨_, rfl⟩
      rw [hue] at H1 hu
      rw [W32_eq] at hu
      have HA := Lib.hid H1; clear H1
      have hbs := hbel.size
      have hgw : g ≤ wr.heap.size := by rw [HG.out]; exact hbs
      have HS2 := Lib.hid (shlIs_step HS hue hu)
      have hwide : u * 2 ^ l < 18446744073709551616 := by
        have := Nat.mul_lt_mul_of_lt_of_le hu (Nat.le_of_lt (Nat.pow_lt_pow_right (a := 2) (by omega) hl)) (by omega : 0 < 2 ^ 32)
        omega
      have E0 : bits .or .u64 (IntKind.u64.wrap ((u : Int) * 2 ^ l)) (cy : Int) = ((cy + 2 ^ l * u : Nat) : Int) := by
        rw [wrap_shl hu hl, u64_or_nat _ _ hwide (by omega), shl_or64 HS.2.2.1]
      have hcl : (wr.alloc (.cells #[.int .u32 (bits .or .u64 (IntKind.u64.wrap ((u : Int) * 2 ^ l)) (cy : Int) % 4294967296)] 34)).cell? ⟨wr.heap.size, 0, none⟩ = some (.int .u32 (((cy + 2 ^ l * u) % W32 : Nat) : Int)) := by
        rw [E0, show (((cy + 2 ^ l * u) % W32 : Nat) : Int) = ((cy + 2 ^ l * u : Nat) : Int) % 4294967296 from by unfold W32; omega]
        simp
      have HCL := Lib.hid hcl; clear hcl
      have HE0 := Lib.hid E0; clear E0
      clear hue hwide
      go_wp2_with fail
      refine HA.out.mono ?_; rintro e w' ⟨rfl, rfl⟩
      go_wp2_with (at_builtin; refine wp_app1 _ rfl _ _ rfl g _ p rfl (hown.alloc _) wr.heap.size ((cy + 2 ^ l * u) % W32) rfl HCL.out (Nat.mod_lt _ W32_pos) (by omega) (by simp; omega) ?_)
      intro o2 w2 h2 g2
      have hb2 := (hbel.alloc hbs (.cells #[.int .u32 (bits .or .u64 (IntKind.u64.wrap ((u : Int) * 2 ^ l)) (cy : Int) % 4294967296)] 34)).grown g2 (by simp; omega) (fun kk hkk => by rw [← HG.out]; exact hown.blockGe kk hkk)
      have H2' := Lib.hid h2; clear h2 g2
      go_wp2_with fail
      go_roundw
      case rel => exact ⟨j + 1, (cy + 2 ^ l * u) / W32, _, by go_num, congrArg (Value.int .u64) (by rw [HE0.out]; unfold W32; omega), by omega, HS2.out, H2'.out, hb2⟩
      case measure => simp [intOf]; omega

set_option maxHeartbeats 400000 in
theorem rshr_any (x q l : Nat) (va : Value) (w : World) (ha : IsN w va x) (hx : len x ≤ 1099511627776) (hl : l < 32) (hn : 32 * q + l ≤ 9223372036854775807) :
    Calls Tryd.prog 65 #[va, .int .i64 ((32 * q + l : Nat) : Int)] w (RetN w (x / 2 ^ (32 * q + l))) := by
  obtain ⟨A, n, c, rfl, ha⟩ := ha
  have hlx : len x = n := ha.len
  have hn40 : n ≤ 1099511627776 := by omega
  have HLX := Lib.hid hlx; clear hlx
  obtain ⟨k, hk⟩ : ∃ k : Nat, k = 32 * q + l := ⟨_, rfl⟩
  have h1 : (k : Int) / 32 = (q : Int) := by omega
  have h2 : (k : Int) % 32 = (l : Int) := by omega
  rw [← hk] at hn ⊢
  have HK := Lib.hid hk; clear hk
  obtain ⟨g, hg⟩ : ∃ g, g = w.heap.size := ⟨_, rfl⟩
  have HG := Lib.hid hg; clear hg
  obtain ⟨M, hM⟩ : ∃ M, M = max n q := ⟨_, rfl⟩
  have hnM : n ≤ M := by omega
  have hqM : q ≤ M := by omega
  have hmax : M ≤ n ∨ n ≤ q ∧ M ≤ q := by omega
  have HMM := Lib.hid hmax
  clear hM hmax
  go_enter Tryd.func65, Tryd.ntmps65
  go_wp2_with fail
  go_loopw [5, 6] (fun o i wr => ∃ (j : Nat) (s : List Nat), i = .int .i64 ((q + j : Nat) : Int) ∧ q + j ≤ M ∧ DigsIs (x / 2 ^ (32 * q + l)) s j ∧ Own wr g o s ∧ Below w.heap.size w wr) (fun _ i _ => M - (intOf i).toNat)
  case atStart => exact ⟨0, [], rfl, by omega, digsIs_zero _, Own.nil _ _, Below.refl _ _⟩
  case round =>
    obtain ⟨j, s, rfl, hj, HS, hown, hbel⟩ := hrel
    obtain ⟨i, hi⟩ : ∃ i, i = q + j := ⟨_, rfl⟩
    rw [← hi] at hj ⊢
    have HI := Lib.hid hi; clear hi
    rcases Nat.lt_or_ge i n with hin | hin
    · have H1 := at_any _ i A n c wr (ha.mono hbel)
      have H2 := at_any _ (i + 1) A n c wr (ha.mono hbel)
      have hu := (small_dig x).get i
      have hv := (small_dig x).get (i + 1)
      obtain ⟨u, hue⟩ : ∃ u, nth (dig x) i = u := ⟨_, rfl⟩
      obtain ⟨v, hve⟩ : ∃ v, nth (dig x) (i + 1) = v := ⟨_, rfl⟩
      rw [hue] at H1 hu
      rw [hve] at H2 hv
      rw [W32_eq] at hu hv
      have HA := Lib.hid H1; clear H1
      have e1 : ((i + 1 : Nat) : Int) = (i : Int) + 1 := by omega
      rw [e1] at H2
      have HB := Lib.hid H2; clear H2 e1
      have hsl : s.length ≤ 1099511627776 := by rw [HS.1]; have := HI.out; omega
      rw [HI.out] at hue hve
      have HD := Lib.hid (shr_digit (l := l) (by omega) hue hve)
      clear hue hve
      have hbs := hbel.size
      have hgw : g ≤ wr.heap.size := by rw [HG.out]; exact hbs
      have hcl : (wr.alloc (.cells #[.int .u32 (bits .or .u64 (u : Int) ((v : Int) * 4294967296) / 2 ^ l % 4294967296)] 34)).cell? ⟨wr.heap.size, 0, none⟩ = some (.int .u32 (((u + W32 * v) / 2 ^ l % W32 : Nat) : Int)) := by
        have E : (((u + W32 * v) / 2 ^ l % W32 : Nat) : Int) = bits .or .u64 (u : Int) ((v : Int) * 4294967296) / 2 ^ l % 4294967296 := by
          rw [or_digit' v u hv hu, Int.natCast_emod, Int.natCast_ediv, Int.natCast_pow]; rfl
        rw [E]
        simp
      have HCL := Lib.hid hcl; clear hcl
      go_wp2_with fail
      refine HA.out.mono ?_; rintro e w' ⟨rfl, rfl⟩
      go_wp2_with fail
      refine HB.out.mono ?_; rintro e w' ⟨rfl, rfl⟩
      go_wp2_with (at_builtin; refine wp_app1 _ rfl _ _ rfl g _ s rfl (hown.alloc _) wr.heap.size ((u + W32 * v) / 2 ^ l % W32) rfl HCL.out (Nat.mod_lt _ W32_pos) (by omega) (by simp; omega) ?_)
      intro o2 w2 h2 g2
      have hb2 := (hbel.alloc hbs (.cells #[.int .u32 (bits .or .u64 (u : Int) ((v : Int) * 4294967296) / 2 ^ l % 4294967296)] 34)).grown g2 (by simp; omega) (fun kk hkk => by rw [← HG.out]; exact hown.blockGe kk hkk)
      have H2' := Lib.hid h2; clear h2 g2
      go_wp2_with fail
      go_roundw
      case rel => exact ⟨j + 1, _, congrArg (Value.int .i64) (by rw [HI.out]; omega), by have := HI.out; omega, digsIs_step HS HD.out, H2'.out, hb2⟩
      case measure => simp [intOf]; omega
    · have H := hown.form
      obtain ⟨C, cc, rfl, hsl, _⟩ := H
      have hsl2 : s.length ≤ 1099511627776 ∧ x / 2 ^ (32 * q + l) < W32 ^ j := by
        have h3 := HI.out
        rw [HS.1]
        rcases HMM.out with h4 | ⟨h4, h5⟩
        · refine ⟨by omega, ?_⟩
          have := shr_small (x := x) (l := l) (Nat.le_of_eq HLX.out) (show q ≤ n by omega)
          rwa [show n - q = j from by omega] at this
        · refine ⟨by omega, ?_⟩
          rw [shr_zero (Nat.le_of_eq HLX.out) h4]
          exact Nat.pow_pos W32_pos
      have HR := Lib.hid (rtrim_any s C _ cc wr hsl (by omega))
      have HE := Lib.hid (digsIs_end HS hsl2.2)
      clear hsl2
      go_wp2_with fail
      refine HR.out.mono ?_
      rintro e w' ⟨v, rfl, hv⟩
      go_wp2_with fail
      go_ret
      refine ⟨_, rfl, ?_, hbel.trans (hv.below.mono hbel.size)⟩
      rw [HK.out, ← HE.out]
      exact hv.own.base_le hbel.size

end Go.Proofs.YtajegednakenbaaDoor
