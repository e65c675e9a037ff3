/- The walk of RootSqrt: whatever the input, the law returns true and turns nothing that was there. -/
import Derived.Test.YtdlojigbphhjaaaAwake4
namespace Go.Proofs.Ytdlojigbphhjaaa
open Go.RowKit

set_option maxHeartbeats 2000000 in
theorem walk_RootSqrt (a0 : Option Addr) (len0 cap0 : Nat) (z0 : List Nat) (a1 : Bool) (a2 : Int) (w : World) (h0 : Sl w a0 len0 cap0 z0) (hb2 : -9223372036854775808 ≤ a2 ∧ a2 ≤ 9223372036854775807) :
    Calls Try.prog 3 #[.slice a0 len0 cap0, .bool a1, .int .i64 a2] w fun e w' => e = .returned (.bool true) ∧ Below w.heap.size w w' := by
  go_enter Try.func3, Try.ntmps3
  go_wp2_with fail
  refine (awake4_any w).mono ?_
  rintro e w1 ⟨rfl, b⟩
  have L := Live.mk b
  clear b
  go_wp2_with fail
  refine (mill_any z0 50 _ _ _ w1 (h0.mono L.below) (by omega)).mono ?_
  rintro e w2 ⟨vx, ok, x, rfl, ix, lx, b⟩
  replace L := (L.step b).cons ix
  clear b ix
  clear h0
  cases ok
  · go_wp2_with fail
    go_ret
    exact ⟨rfl, L.below⟩
  · cases a1
    · skip
      go_wp2_with fail
      refine (sqrtR_any (x) vx w2 (L.get (by simp)) (by omega)).mono ?_
      rintro e w3 ⟨r, z, vq, vr, rfl, iq, ir, b, HE, HB, hlr, hlz⟩
      replace L := ((L.step b).cons iq).cons ir
      clear iq ir b
      go_wp2_with fail
      refine (below_any r (x) 2 vq vx w3 (L.get (by simp)) (L.get (by simp)) (by omega) (by omega) HB).mono ?_
      rintro e w4 ⟨rfl, b⟩
      replace L := L.step b
      clear b
      go_wp2_with fail
      refine (rmul_any r r vq vq w4 (L.get (by simp)) (L.get (by simp)) (by omega) (by omega)).mono ?_
      rintro e w5 ⟨v3, rfl, o⟩
      replace L := L.add o
      clear o
      have hlm := len_mul r r
      go_wp2_with fail
      refine (radd_any (r * r) z v3 vr w5 (L.get (by simp)) (L.get (by simp)) (by omega) (by omega)).mono ?_
      rintro e w6 ⟨v4, rfl, o⟩
      replace L := L.add o
      clear o
      go_wp2_with fail
      refine (same_yes (r * r + z) (x) v4 vx w6 (L.get (by simp)) (L.get (by simp)) HE.out).mono ?_
      rintro e w' ⟨rfl, rfl⟩
      skip
      go_wp2_with fail
      go_ret
      exact ⟨rfl, L.below⟩
    · have hm0 := Int.emod_nonneg a2 (show (3 : Int) ≠ 0 by omega)
      have hm1 := Int.emod_lt_of_pos a2 (show (0 : Int) < 3 by omega)
      obtain ⟨n, hn⟩ : ∃ n : Nat, a2 % 3 = (n : Int) := ⟨(a2 % 3).toNat, by omega⟩
      have hlx := len_mul x x
      have hn3 : n < 3 := by omega
      have HMOD := Lib.hid (fun W => by
        have := mod_any a2 3 W (by omega) (by omega) hb2.1 hb2.2
        rwa [hn] at this)
      clear hm0 hm1 hn hb2
      go_wp2_with fail
      refine (rmul_any x x vx vx w2 (L.get (by simp)) (L.get (by simp)) (by omega) (by omega)).mono ?_
      rintro e w3 ⟨v1, rfl, o⟩
      replace L := L.add o
      clear o
      go_wp2_with fail
      refine (HMOD.out w3).mono ?_
      rintro e w' ⟨rfl, rfl⟩
      skip
      go_wp2_with fail
      refine (rof_any n w3 (by omega)).mono ?_
      rintro e w4 ⟨v2, rfl, o⟩
      replace L := L.add o
      clear o
      have hls := len_sub (x * x) n
      have HSB := rsub_any (x * x) n v1 v2 w4 (L.get (by simp)) (L.get (by simp)) (by omega)
      unfold RetSub at HSB
      rcases Nat.lt_or_ge (x * x) n with hlt | hge
      · rw [if_neg (by omega), decide_eq_false (by omega)] at HSB
        have HS2 := Lib.hid HSB
        clear HSB hlt
        go_wp2_with fail
        refine (HS2.out).mono ?_
        rintro e w5 ⟨v5, rfl, o⟩
        replace L := L.step o.below
        clear o HS2
        go_wp2_with fail
        refine (sqrtR_any (x * x) v1 w5 (L.get (by simp)) (by omega)).mono ?_
        rintro e w6 ⟨r, z, vq, vr, rfl, iq, ir, b, HE, HB, hlr, hlz⟩
        replace L := ((L.step b).cons iq).cons ir
        clear iq ir b
        go_wp2_with fail
        refine (below_any r (x * x) 2 vq v1 w6 (L.get (by simp)) (L.get (by simp)) (by omega) (by omega) HB).mono ?_
        rintro e w7 ⟨rfl, b⟩
        replace L := L.step b
        clear b
        go_wp2_with fail
        refine (rmul_any r r vq vq w7 (L.get (by simp)) (L.get (by simp)) (by omega) (by omega)).mono ?_
        rintro e w8 ⟨v3, rfl, o⟩
        replace L := L.add o
        clear o
        have hlm := len_mul r r
        go_wp2_with fail
        refine (radd_any (r * r) z v3 vr w8 (L.get (by simp)) (L.get (by simp)) (by omega) (by omega)).mono ?_
        rintro e w9 ⟨v4, rfl, o⟩
        replace L := L.add o
        clear o
        go_wp2_with fail
        refine (same_yes (r * r + z) (x * x) v4 v1 w9 (L.get (by simp)) (L.get (by simp)) HE.out).mono ?_
        rintro e w' ⟨rfl, rfl⟩
        skip
        go_wp2_with fail
        go_ret
        exact ⟨rfl, L.below⟩
      · rw [if_pos (by omega), decide_eq_true (by omega)] at HSB
        have HS2 := Lib.hid HSB
        clear HSB hge
        go_wp2_with fail
        refine (HS2.out).mono ?_
        rintro e w5 ⟨v5, rfl, o⟩
        replace L := L.add o
        clear o HS2
        obtain ⟨y, hy⟩ : ∃ y, x * x - n = y := ⟨_, rfl⟩
        rw [hy] at L hls
        clear hy
        go_wp2_with fail
        refine (sqrtR_any (y) v5 w5 (L.get (by simp)) (by omega)).mono ?_
        rintro e w6 ⟨r, z, vq, vr, rfl, iq, ir, b, HE, HB, hlr, hlz⟩
        replace L := ((L.step b).cons iq).cons ir
        clear iq ir b
        go_wp2_with fail
        refine (below_any r (y) 2 vq v5 w6 (L.get (by simp)) (L.get (by simp)) (by omega) (by omega) HB).mono ?_
        rintro e w7 ⟨rfl, b⟩
        replace L := L.step b
        clear b
        go_wp2_with fail
        refine (rmul_any r r vq vq w7 (L.get (by simp)) (L.get (by simp)) (by omega) (by omega)).mono ?_
        rintro e w8 ⟨v3, rfl, o⟩
        replace L := L.add o
        clear o
        have hlm := len_mul r r
        go_wp2_with fail
        refine (radd_any (r * r) z v3 vr w8 (L.get (by simp)) (L.get (by simp)) (by omega) (by omega)).mono ?_
        rintro e w9 ⟨v4, rfl, o⟩
        replace L := L.add o
        clear o
        go_wp2_with fail
        refine (same_yes (r * r + z) (y) v4 v5 w9 (L.get (by simp)) (L.get (by simp)) HE.out).mono ?_
        rintro e w' ⟨rfl, rfl⟩
        skip
        go_wp2_with fail
        go_ret
        exact ⟨rfl, L.below⟩

end Go.Proofs.Ytdlojigbphhjaaa
