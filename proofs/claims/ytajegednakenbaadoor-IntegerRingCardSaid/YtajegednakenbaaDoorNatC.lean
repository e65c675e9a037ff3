/- Walks: nat.Add, nat.Sub. -/
import Derived.Test.YtajegednakenbaaDoorNatB
namespace Go.Proofs.YtajegednakenbaaDoor
open Go.RowKit
set_option linter.unusedVariables false
set_option linter.unusedSimpArgs false

set_option maxHeartbeats 400000 in
theorem add_core (sw : Bool) (x y n c m d : Nat) (A B : Option Addr) (w : World) (hsw : sw = true → m < n) (hmn : m ≤ n) (hn : n ≤ 1099511627776) (ha : Sl w A n c (dig x)) (hb : Sl w B m d (dig y)) :
    Calls Tryd.prog 53 (if sw then #[.slice B m d, .slice A n c] else #[.slice A n c, .slice B m d]) w (RetN w (x + y)) := by
  have hlx : len x = n := ha.len
  have hly : len y = m := hb.len
  have HLX := Lib.hid hlx; clear hlx
  have HLY := Lib.hid hly; clear hly
  have hlt : sw = true ∧ m < n ∨ sw = false ∧ ¬ n < m := by cases sw <;> simp_all
  clear hsw
  rcases hlt with ⟨rfl, hlt⟩ | ⟨rfl, hlt⟩
  all_goals
    simp only [if_true, if_false, Bool.false_eq_true]
    go_enter Tryd.func53, Tryd.ntmps53
    go_wp2_with (at_make; refine wp_mk _ rfl _ _ rfl w.heap.size _ _ (n + 1) rfl rfl (by omega) (by omega) (by omega) (Nat.le_refl _) ?_)
    intro w1 h1 g1
    have b1 : Below w.heap.size w w1 := (Below.refl _ _).grown g1 (Nat.le_refl _) (fun k h => by cases h)
    obtain ⟨g, hg⟩ : ∃ g, g = w.heap.size := ⟨_, rfl⟩
    rw [← hg] at h1 ⊢
    have HG := Lib.hid hg; clear hg
    clear g1
    go_wp2_with fail
    go_loopw [6, 22] (fun t i wr => ∃ (k cy : Nat) (s : List Nat), i = .int .i64 k ∧ t = .int .u64 cy ∧ k ≤ n ∧ cy ≤ 1 ∧ AddIs x y s k cy ∧ Own wr g (.slice (some ⟨g, 0, none⟩) (n + 1) (n + 1)) (s ++ List.replicate (n + 1 - k) 0) ∧ Below w.heap.size w wr) (fun _ i _ => n - (intOf i).toNat)
    case atStart => exact ⟨0, 0, [], rfl, rfl, by omega, by omega, addIs_zero x y, h1, b1⟩
    case round =>
      obtain ⟨k, cy, s, rfl, rfl, hk, hcy, HS, hown, hbel⟩ := hrel
      clear h1 b1
      rcases Nat.eq_or_lt_of_le hk with rfl | hkn
      · have hfree := hown.free k
        obtain ⟨z, hz, _, _⟩ := hown.cell (j := k) (by omega)
        rw [show k + 1 - k = 0 + 1 from by omega] at hown
        have hst := hown.store (j := k) (x := cy) (by unfold W32; omega)
        rw [set_end s 0 cy HS.1, List.replicate_zero, List.append_nil] at hst
        have H := length_any _ _ _ _ _ hst.sl
        have HT := Lib.hid (addIs_end HS (Nat.le_of_eq HLX.out) (by rw [HLY.out]; exact hmn) (show cy < W32 by unfold W32; omega))
        rw [HT.out] at H
        have hdl : (dig (x + y)).length ≤ k + 1 := by
          rw [← HT.out]
          have := length_trim_le (s ++ [cy])
          rw [List.length_append, HS.1] at this
          exact this
        have hcut := hst.cut hdl
        have HD := Lib.hid (show (s ++ [cy]).take (dig (x + y)).length = dig (x + y) by rw [← HT.out, trim_take])
        rw [HD.out] at hcut
        have hb2 := hbel.setCell (p := ⟨g, k, none⟩) (by rw [HG.out]; exact Nat.le_refl _) (.int .u32 (cy : Int))
        obtain ⟨kk, hkk⟩ : ∃ kk, kk = (dig (x + y)).length := ⟨_, rfl⟩
        rw [← hkk] at hdl H
        have HKK := Lib.hid hkk; clear hkk
        have HL := Lib.hid H; clear H
        have HHcut := Lib.hid hcut; clear hcut
        clear hst hown
        go_wp2_with (go_at_call 66; refine HL.out.mono ?_; rintro e w' ⟨rfl, rfl⟩)
        go_ret
        refine ⟨_, rfl, ?_, hb2⟩
        have := HHcut.out
        rw [← HKK.out] at this
        exact this.base_le (Nat.le_of_eq HG.out.symm)
      · have hfree := hown.free k
        obtain ⟨z, hz, _, _⟩ := hown.cell (j := k) (by omega)
        obtain ⟨b, off, u, rfl, _, hxc, HU, hu⟩ := ha.get hbel (k := k) hkn
        rw [show n + 1 - k = (n - k) + 1 from by omega] at hown
        have hlg := hbel.size
        rcases Nat.lt_or_ge k m with hkm | hkm
        · obtain ⟨b', off', v, rfl, _, hyc, HV, hv⟩ := hb.get hbel (k := k) hkm
          have hst := hown.store (j := k) (x := (cy + u + v) % W32) (Nat.mod_lt _ W32_pos)
          rw [set_end s (n - k) _ HS.1, show (((cy + u + v) % W32 : Nat) : Int) = ((cy : Int) + u + v) % 4294967296 from by unfold W32; omega] at hst
          have hb2 := hbel.setCell (p := ⟨g, k, none⟩) (by rw [HG.out]; exact Nat.le_refl _) (.int .u32 (((cy : Int) + u + v) % 4294967296))
          have HST := Lib.hid hst
          clear hown hst
          go_wp2_with fail
          go_roundw
          case rel => exact ⟨k + 1, (cy + u + v) / W32, _, by go_num, congrArg (Value.int .u64) (by unfold W32; omega), by omega, by unfold W32; omega, addIs_step HS HU.out HV.out, by rw [show n + 1 - (k + 1) = n - k from by omega]; exact HST.out, hb2⟩
          case measure => simp [intOf]; omega
        · have hV : nth (dig y) k = 0 := nth_of_ge (by rw [length_dig, HLY.out]; exact hkm)
          have HV := Lib.hid hV; clear hV
          have hst := hown.store (j := k) (x := (cy + u + 0) % W32) (Nat.mod_lt _ W32_pos)
          rw [set_end s (n - k) _ HS.1, show (((cy + u + 0) % W32 : Nat) : Int) = ((cy : Int) + u) % 4294967296 from by unfold W32; omega] at hst
          have hb2 := hbel.setCell (p := ⟨g, k, none⟩) (by rw [HG.out]; exact Nat.le_refl _) (.int .u32 (((cy : Int) + u) % 4294967296))
          have HST := Lib.hid hst
          clear hown hst
          go_wp2_with fail
          go_roundw
          case rel => exact ⟨k + 1, (cy + u + 0) / W32, _, by go_num, congrArg (Value.int .u64) (by unfold W32; omega), by omega, by unfold W32; omega, addIs_step HS HU.out HV.out, by rw [show n + 1 - (k + 1) = n - k from by omega]; exact HST.out, hb2⟩
          case measure => simp [intOf]; omega

theorem add_any (x y : Nat) (va vb : Value) (w : World) (ha : IsN w va x) (hb : IsN w vb y) (hx : len x ≤ 1099511627776) (hy : len y ≤ 1099511627776) :
    Calls Tryd.prog 53 #[va, vb] w (RetN w (x + y)) := by
  obtain ⟨A, n, c, rfl, ha⟩ := ha
  obtain ⟨B, m, d, rfl, hb⟩ := hb
  have h1 : len x = n := ha.len
  have h2 : len y = m := hb.len
  rcases Nat.lt_or_ge n m with h | h
  · have := add_core true y x m d n c B A w (fun _ => h) (by omega) (by omega) hb ha
    rw [Nat.add_comm x y]
    exact this
  · exact add_core false x y n c m d A B w (fun h => by cases h) h (by omega) ha hb

end Go.Proofs.YtajegednakenbaaDoor
