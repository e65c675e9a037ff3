/- The walk of RootRoots: whatever the input, the law returns true and turns nothing that was there. -/
import Derived.Test.YtdlojigbphhjaaaAwake4
namespace Go.Proofs.Ytdlojigbphhjaaa
open Go.RowKit

set_option maxHeartbeats 2000000 in
theorem walk_RootRoots (a0 : Option Addr) (len0 cap0 : Nat) (z0 : List Nat) (a1 : Int) (a2 : Bool) (w : World) (h0 : Sl w a0 len0 cap0 z0) (hb1 : -9223372036854775808 ≤ a1 ∧ a1 ≤ 9223372036854775807) :
    Calls Try.prog 5 #[.slice a0 len0 cap0, .int .i64 a1, .bool a2] w fun e w' => e = .returned (.bool true) ∧ Below w.heap.size w w' := by
  go_enter Try.func5, Try.ntmps5
  go_wp2_with fail
  refine (awake4_any w).mono ?_
  rintro e w1 ⟨rfl, b⟩
  have L := Live.mk b
  clear b
  go_wp2_with fail
  refine (mill_any z0 8 _ _ _ w1 (h0.mono L.below) (by omega)).mono ?_
  rintro e w2 ⟨vx, ok, x, rfl, ix, lx, b⟩
  replace L := (L.step b).cons ix
  clear b ix
  clear h0
  cases ok
  · go_wp2_with fail
    go_ret
    exact ⟨rfl, L.below⟩
  · rcases (show (a1 < 1 ∨ 64 < a1) ∨ (1 ≤ a1 ∧ a1 ≤ 64) by omega) with hk | hk
    · have HO := Lib.hid (root_out a1 vx w2 hb1.1 hb1.2 hk)
      rcases hk with hk | hk
      · skip
        go_wp2_with fail
        refine (HO.out).mono ?_
        rintro e w' ⟨rfl, rfl⟩
        skip
        go_wp2_with fail
        go_ret
        exact ⟨rfl, L.below⟩
      · skip
        go_wp2_with fail
        refine (HO.out).mono ?_
        rintro e w' ⟨rfl, rfl⟩
        skip
        go_wp2_with fail
        go_ret
        exact ⟨rfl, L.below⟩
    · obtain ⟨k, rfl⟩ : ∃ k : Nat, a1 = (k : Int) := ⟨a1.toNat, by omega⟩
      have hk1 : 1 ≤ k := by omega
      have hk2 : k ≤ 64 := by omega
      clear hk hb1
      obtain ⟨B, m, d, rfl, hs⟩ := show IsN w2 vx x from L.get (by simp)
      have hm : len x = m := hs.len
      clear hs
      go_wp2_with fail
      refine (rootR_any x k (.slice B m d) w2 (L.get (by simp)) (by omega) hk1 hk2).mono ?_
      rintro e w3 ⟨r0, v0, rfl, o, _, _⟩
      replace L := L.step o.below
      clear o
      cases a2
      · skip
        go_wp2_with fail
        refine (rootR_any (x) k (.slice B m d) w3 (L.get (by simp)) (by omega) hk1 hk2).mono ?_
        rintro e w4 ⟨r, vr, rfl, o, HB, hlr⟩
        replace L := L.add o
        clear o
        go_wp2_with fail
        refine (below_any r (x) k vr (.slice B m d) w4 (L.get (by simp)) (L.get (by simp)) (by omega) hk2 HB).mono ?_
        rintro e w5 ⟨rfl, b⟩
        replace L := L.step b
        clear b
        go_wp2_with fail
        go_ret
        exact ⟨rfl, L.below⟩
      · rcases Nat.lt_or_ge 1 m with hm1 | hm1
        · skip
          go_wp2_with fail
          refine (rootR_any (x) k (.slice B m d) w3 (L.get (by simp)) (by omega) hk1 hk2).mono ?_
          rintro e w4 ⟨r, vr, rfl, o, HB, hlr⟩
          replace L := L.add o
          clear o
          go_wp2_with fail
          refine (below_any r (x) k vr (.slice B m d) w4 (L.get (by simp)) (L.get (by simp)) (by omega) hk2 HB).mono ?_
          rintro e w5 ⟨rfl, b⟩
          replace L := L.step b
          clear b
          go_wp2_with fail
          go_ret
          exact ⟨rfl, L.below⟩
        · have hlp := len_pow x k
          have hkm : k * len x ≤ 64 * 1 := Nat.mul_le_mul hk2 (by omega)
          go_wp2_with fail
          refine (rpower_any x k (.slice B m d) w3 (L.get (by simp)) (by omega) (by omega)).mono ?_
          rintro e w4 ⟨v1, rfl, o⟩
          replace L := L.add o
          clear o
          have hlp2 : len (x ^ k) ≤ 65 := by omega
          clear hlp hkm
          go_wp2_with fail
          refine (rootR_any (x ^ k) k v1 w4 (L.get (by simp)) (by omega) hk1 hk2).mono ?_
          rintro e w5 ⟨r, vr, rfl, o, HB, hlr⟩
          replace L := L.add o
          clear o
          go_wp2_with fail
          refine (below_any r (x ^ k) k vr v1 w5 (L.get (by simp)) (L.get (by simp)) (by omega) hk2 HB).mono ?_
          rintro e w6 ⟨rfl, b⟩
          replace L := L.step b
          clear b
          go_wp2_with fail
          go_ret
          exact ⟨rfl, L.below⟩

end Go.Proofs.Ytdlojigbphhjaaa
