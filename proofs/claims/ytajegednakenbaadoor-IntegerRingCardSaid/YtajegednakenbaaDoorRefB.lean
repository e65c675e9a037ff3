/- Walks: the reference's Uint, Add, Sub, Less. -/
import Derived.Test.YtajegednakenbaaDoorRefA
namespace Go.Proofs.YtajegednakenbaaDoor
open Go.RowKit
set_option linter.unusedVariables false
set_option linter.unusedSimpArgs false

theorem val_take_one (x : Nat) : val ((dig x).take 1) = nth (dig x) 0 := by
  have := val_take_succ (dig x) 0
  simpa [val_nil] using this
theorem val_take_two (x : Nat) : val ((dig x).take 2) = nth (dig x) 0 + 4294967296 * nth (dig x) 1 := by
  have := val_take_succ (dig x) 1
  rw [val_take_one, Nat.pow_one] at this
  exact this

def UintTo (x k t : Nat) : Prop := t = val ((dig x).take k)

theorem ruint_any (x : Nat) (v : Value) (w : World) (h : IsN w v x) :
    Calls Tryd.prog 43 #[v] w (UintIs x w) := by
  obtain ⟨A, n, c, rfl, hs⟩ := h
  have HL := Lib.hid hs.len
  have h63 := hs.le63
  go_enter Tryd.func43, Tryd.ntmps43
  go_wp2
  go_loop [4, 9] (fun t i => ∃ k u : Nat, i = .int .i64 k ∧ t = .int .u64 u ∧ k ≤ n ∧ k ≤ 2 ∧ UintTo x k u) (fun _ i => 3 - (intOf i).toNat)
  case atStart => exact ⟨0, 0, rfl, rfl, by omega, by omega, by unfold UintTo; simp [val_nil]⟩
  case round =>
    obtain ⟨k, u, rfl, rfl, hk, hk2, HU⟩ := hrel
    rcases Nat.eq_or_lt_of_le hk with rfl | hkn
    · have e : u = x := by
        unfold UintTo at HU
        rw [List.take_of_length_le (Nat.le_of_eq HL.out), val_dig] at HU
        exact HU
      have hx : x < 18446744073709551616 := by
        have := lt_pow_len x
        have h2 : len x ≤ 2 := by rw [← length_dig, HL.out]; exact hk2
        have := Nat.lt_of_lt_of_le this (Nat.pow_le_pow_right W32_pos h2)
        unfold W32 at this; omega
      have HX := Lib.hid hx
      have HE := Lib.hid e
      clear hx e
      go_wp2
      go_ret2
      exact uintIs_yes 0 HX.out (by rw [HE.out]) rfl
    · obtain ⟨b, off, y, rfl, _, hc, HY, hy⟩ := hs.get (Below.refl _ _) hkn
      rcases (show k = 0 ∨ k = 1 ∨ k = 2 by omega) with rfl | rfl | rfl
      · have hu : u = 0 := by rw [show u = _ from HU]; simp [val_nil]
        subst hu
        simp only [Nat.add_zero] at hc
        go_wp2
        go_round
        case rel => exact ⟨1, y, rfl, by go_num, by omega, by omega, by unfold UintTo; rw [val_take_one, HY.out]⟩
        case measure => simp [intOf]
      · have hu : u = nth (dig x) 0 := by rw [show u = _ from HU, val_take_one]
        have hu32 : u < 4294967296 := by rw [hu]; exact (small_dig x).get 0
        have HUU := Lib.hid hu; clear hu
        go_wp2
        go_round
        case rel => exact ⟨2, u + 4294967296 * y, rfl, congrArg (Value.int .u64) (by omega), by omega, by omega, by unfold UintTo; rw [val_take_two, HY.out, ← HUU.out]⟩
        case measure => simp [intOf]
      · have hx : ¬ x < 18446744073709551616 := by
          intro hlt
          have : x < W32 ^ 2 := by unfold W32; omega
          have := len_le this
          rw [← length_dig, HL.out] at this
          omega
        have HX := Lib.hid hx
        clear hx
        go_wp2
        go_ret2
        exact uintIs_no 0 HX.out rfl

set_option maxHeartbeats 400000 in
theorem radd_any (x y : Nat) (va vb : Value) (w : World) (ha : IsN w va x) (hb : IsN w vb y) (hx : len x ≤ 1099511627776) (hy : len y ≤ 1099511627776) :
    Calls Tryd.prog 55 #[va, vb] w (RetN w (x + y)) := by
  obtain ⟨A, n, c, rfl, ha⟩ := ha
  obtain ⟨B, m, d, rfl, hb⟩ := hb
  have hlx : len x = n := ha.len
  have hly : len y = m := hb.len
  have hn : n ≤ 1099511627776 := by omega
  have hm : m ≤ 1099511627776 := by omega
  have HLX := Lib.hid hlx; clear hlx
  have HLY := Lib.hid hly; clear hly
  obtain ⟨g, hg⟩ : ∃ g, g = w.heap.size := ⟨_, rfl⟩
  have HG := Lib.hid hg
  clear hg
  go_enter Tryd.func55, Tryd.ntmps55
  go_wp2
  obtain ⟨M, hM⟩ : ∃ M, M = max n m := ⟨_, rfl⟩
  have hnM : n ≤ M := by omega
  have hmM : m ≤ M := by omega
  have hM40 : M ≤ 1099511627776 := by omega
  have hcase : M ≤ n ∧ ¬ n < m ∨ M ≤ m ∧ n < m := by omega
  clear hM
  rcases hcase with ⟨hMM, hlt⟩ | ⟨hMM, hlt⟩
  all_goals
    go_loopw [5, 6, 7] (fun o t i wr => ∃ (k cy : Nat) (s : List Nat), i = .int .i64 k ∧ t = .int .u64 cy ∧ cy ≤ 1 ∧ k ≤ M + 1 ∧ AddIs x y s k cy ∧ Own wr g o s ∧ Below w.heap.size w wr) (fun _ _ i _ => M + 1 - (intOf i).toNat)
    case atStart => exact ⟨0, 0, [], rfl, rfl, by omega, by omega, addIs_zero x y, Own.nil _ _, Below.refl _ _⟩
    case round =>
      obtain ⟨k, cy, s, rfl, rfl, hcy, hk, HS, hown, hbel⟩ := hrel
      rcases Nat.eq_or_lt_of_le hk with hke | hk
      · have H := hown.form
        obtain ⟨C, cc, rfl, hsl, _⟩ := H
        have HR := Lib.hid (rtrim_any s C _ cc wr hsl (by rw [HS.1]; omega))
        have HE := Lib.hid (addIs_end2 HS (by rw [HLX.out]; omega) (by rw [HLY.out]; omega))
        have hkk : M + 1 ≤ k := by omega
        clear hke
        go_wp2_with fail
        refine HR.out.mono ?_
        rintro e w' ⟨v, rfl, hv⟩
        go_wp2_with fail
        go_ret
        exact ⟨_, rfl, by rw [← HE.out]; exact hv.own.base_le hbel.size, hbel.trans (hv.below.mono hbel.size)⟩
      · have H1 := at_any _ k A n c wr (ha.mono hbel)
        have H2 := at_any _ k B m d wr (hb.mono hbel)
        have hu := (small_dig x).get k
        have hv := (small_dig y).get k
        obtain ⟨u, hue⟩ : ∃ u, nth (dig x) k = u := ⟨_, rfl⟩
        obtain ⟨v, hve⟩ : ∃ v, nth (dig y) k = v := ⟨_, rfl⟩
        rw [hue] at H1 hu
        rw [hve] at H2 hv
        rw [W32_eq] at hu hv
        have HA := Lib.hid H1; clear H1
        have HB := Lib.hid H2; clear H2
        have HU := Lib.hid hue; clear hue
        have HV := Lib.hid hve; clear hve
        have hbs := hbel.size
        have hgw : g ≤ wr.heap.size := by rw [HG.out]; exact hbs
        have hcl : (wr.alloc (.cells #[.int .u32 (((cy : Int) + u + v) % 4294967296)] 34)).cell? ⟨wr.heap.size, 0, none⟩ = some (.int .u32 (((cy + u + v) % W32 : Nat) : Int)) := by
          rw [show (((cy + u + v) % W32 : Nat) : Int) = ((cy : Int) + u + v) % 4294967296 from by unfold W32; omega]
          simp
        have HCL := Lib.hid hcl; clear hcl
        have HSL := Lib.hid HS.1
        have hsl : s.length ≤ 1099511627776 := by rw [HS.1]; omega
        go_wp2_with fail
        refine HA.out.mono ?_; rintro e w' ⟨rfl, rfl⟩
        go_wp2_with fail
        refine HB.out.mono ?_; rintro e w' ⟨rfl, rfl⟩
        go_wp2_with (at_builtin; refine wp_app1 _ rfl _ _ rfl g _ s rfl (hown.alloc _) wr.heap.size ((cy + u + v) % W32) rfl HCL.out (Nat.mod_lt _ W32_pos) (by omega) (by simp; omega) ?_)
        intro o2 w2 h2 g2
        have hb2 := (hbel.alloc hbs (.cells #[.int .u32 (((cy : Int) + u + v) % 4294967296)] 34)).grown g2 (by simp; omega) (fun kk hkk => by rw [← HG.out]; exact hown.blockGe kk hkk)
        have H2' := Lib.hid h2; clear h2 g2
        go_wp2_with fail
        go_roundw
        case rel => exact ⟨k + 1, (cy + u + v) / W32, _, by go_num, congrArg (Value.int .u64) (by unfold W32; omega), by unfold W32; omega, by omega, addIs_step HS HU.out HV.out, H2'.out, hb2⟩
        case measure => simp [intOf]; omega

end Go.Proofs.YtajegednakenbaaDoor
