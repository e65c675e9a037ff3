/- The walk of NatBits: whatever the input, the law returns true and turns nothing that was there. -/
import Derived.Test.YtklbkgcjbekdfaaDoorLive
namespace Go.Proofs.YtklbkgcjbekdfaaDoor
open Go.RowKit

set_option maxHeartbeats 1000000 in
theorem walk_NatBits (a0 : Option Addr) (len0 cap0 : Nat) (z0 : List Nat) (a1 : Int) (w : World) (h0 : Sl w a0 len0 cap0 z0) (hb : -9223372036854775808 ≤ a1 ∧ a1 ≤ 9223372036854775807) (hT : Tab w) :
    Calls Tryd.prog 7 #[.slice a0 len0 cap0, .int .i64 a1] w fun e w' => e = .returned (.bool true) ∧ Below w.heap.size w w' := by
  have T := Lib.hid hT
  go_enter Tryd.func7, Tryd.ntmps7
  go_wp2_with fail
  refine (awake_any w hT).mono ?_
  rintro e w1 ⟨rfl, b⟩
  have L := Live.mk b
  clear hT b
  go_wp2_with fail
  refine (mill_any z0 60 _ _ _ w1 (h0.mono L.below) (by omega)).mono ?_
  rintro e w2 ⟨vx, ok, x, rfl, ix, lx, b⟩
  replace L := (L.step b).cons ix
  clear b ix
  clear h0
  cases ok
  · go_wp2_with fail
    go_ret
    exact ⟨rfl, L.below⟩
  · have hm1 := Int.emod_nonneg a1 (show (2000 : Int) ≠ 0 by omega)
    have hm2 := Int.emod_lt_of_pos a1 (show (0 : Int) < 2000 by omega)
    have HM1 := fun W => mod_any a1 2000 W (by omega) (by omega) hb.1 hb.2
    have HA := Lib.hid HM1
    clear HM1
    obtain ⟨hb1, hb2⟩ := hb
    generalize a1 % 2000 = m1 at *
    have hblen := blen_le_len x
    have htz : tz x ≤ blen x := by
      rcases Nat.eq_zero_or_pos x with h | h
      · subst h; rw [tz_zero]; omega
      · rcases Nat.lt_or_ge (tz x) (blen x) with h1 | h1
        · omega
        · have := bitB_tz h
          rw [bitB_high h1] at this
          cases this
    go_wp2_with fail
    refine (nbits_any x _ w2 (L.get (by simp)) (by omega)).mono ?_
    rintro e w' ⟨rfl, rfl⟩
    skip
    go_wp2_with fail
    refine (HA.out w2).mono ?_
    rintro e w' ⟨rfl, rfl⟩
    skip
    go_wp2_with fail
    refine (nzeros_any x _ w2 (L.get (by simp)) (by omega) (T.out.mono L.below)).mono ?_
    rintro e w' ⟨rfl, rfl⟩
    skip
    have HBN := Lib.hid (show x = 0 ∧ blen x = 0 ∨ 0 < blen x ∧ bitI x ((blen x : Int) - 1) = true ∧ bitI x (tz x : Nat) = true from by
      rcases Nat.eq_zero_or_pos x with h | h
      · exact .inl ⟨h, by rw [h]; rfl⟩
      · refine .inr ⟨blen_pos h, ?_, by rw [bitI_nat]; exact bitB_tz h⟩
        have := blen_pos h
        rw [show (blen x : Int) - 1 = ((blen x - 1 : Nat) : Int) from by omega, bitI_nat]
        exact bitB_top h)
    have HRB := Lib.hid (fun v W h => rbits_any x v W h (by omega))
    have HRZ := Lib.hid (fun v W h => rzeros_any x v W h (by omega))
    have HNZ := Lib.hid (fun v W h h2 => nzeros_any x v W h (by omega) h2)
    have hbl : blen x ≤ 1920 := by omega
    clear hblen
    generalize blen x = n at *
    generalize tz x = zz at *
    go_wp2_with fail
    have L2 := L.step ((Below.refl w2.heap.size w2).alloc (Nat.le_refl _) (.cells #[.int .i64 a1, .int .i64 m1, .int .i64 ((n : Int) - 1), .int .i64 (n : Int), .int .i64 (zz : Int)] 3))
    have hc0 : (w2.alloc (.cells #[.int .i64 a1, .int .i64 m1, .int .i64 ((n : Int) - 1), .int .i64 (n : Int), .int .i64 (zz : Int)] 3)).cell? ⟨w2.heap.size, 0, none⟩ = some (.int .i64 a1) := by simp
    have hc1 : (w2.alloc (.cells #[.int .i64 a1, .int .i64 m1, .int .i64 ((n : Int) - 1), .int .i64 (n : Int), .int .i64 (zz : Int)] 3)).cell? ⟨w2.heap.size, 1, none⟩ = some (.int .i64 m1) := by simp
    have hc2 : (w2.alloc (.cells #[.int .i64 a1, .int .i64 m1, .int .i64 ((n : Int) - 1), .int .i64 (n : Int), .int .i64 (zz : Int)] 3)).cell? ⟨w2.heap.size, 2, none⟩ = some (.int .i64 ((n : Int) - 1)) := by simp
    have hc3 : (w2.alloc (.cells #[.int .i64 a1, .int .i64 m1, .int .i64 ((n : Int) - 1), .int .i64 (n : Int), .int .i64 (zz : Int)] 3)).cell? ⟨w2.heap.size, 3, none⟩ = some (.int .i64 (n : Int)) := by simp
    have hc4 : (w2.alloc (.cells #[.int .i64 a1, .int .i64 m1, .int .i64 ((n : Int) - 1), .int .i64 (n : Int), .int .i64 (zz : Int)] 3)).cell? ⟨w2.heap.size, 4, none⟩ = some (.int .i64 (zz : Int)) := by simp
    have hgs : w2.heap.size < (w2.alloc (.cells #[.int .i64 a1, .int .i64 m1, .int .i64 ((n : Int) - 1), .int .i64 (n : Int), .int .i64 (zz : Int)] 3)).heap.size := by simp
    generalize w2.alloc (.cells #[.int .i64 a1, .int .i64 m1, .int .i64 ((n : Int) - 1), .int .i64 (n : Int), .int .i64 (zz : Int)] 3) = wb at *
    generalize w2.heap.size = g at *
    clear L
    go_loopw [31] (fun i wr => ∃ j : Nat, i = .int .i64 j ∧ j ≤ 5 ∧ Below wb.heap.size wb wr) (fun i _ => 5 - (intOf i).toNat)
    case atStart => exact ⟨0, rfl, by omega, Below.refl _ _⟩
    case round =>
      obtain ⟨j, rfl, hj, B⟩ := hrel
      have L := L2.step B
      rcases Nat.eq_or_lt_of_le hj with rfl | hjl
      · clear hc0 hc1 hc2 hc3 hc4
        have T2 := Lib.hid (T.out.mono L.below)
        rcases HBN.out with ⟨hx0, hn0⟩ | ⟨hn0, hb1t, hb2t⟩
        · subst hn0
          go_wp2_with fail
          refine (HRB.out _ wr (L.get (by simp))).mono ?_
          rintro e w' ⟨rfl, rfl⟩
          skip
          go_wp2_with fail
          refine (HNZ.out _ wr (L.get (by simp)) T2.out).mono ?_
          rintro e w' ⟨rfl, rfl⟩
          skip
          go_wp2_with fail
          refine (HRZ.out _ wr (L.get (by simp))).mono ?_
          rintro e w' ⟨rfl, rfl⟩
          skip
          go_wp2_with fail
          go_ret
          exact ⟨rfl, L.below⟩
        · have hnb : ((n : Int) == 0) = false := by rw [beq_eq_false_iff_ne]; omega
          have HT1 := Lib.hid (fun v W h => (hb1t ▸ nbitI_any x ((n : Int) - 1) v W h (by omega) : Calls Tryd.prog 35 #[v, .int .i64 ((n : Int) - 1)] W fun e w' => e = .returned (.bool true) ∧ W = w'))
          have HT2 := Lib.hid (fun v W h => (hb2t ▸ nbitI_any x (zz : Int) v W h (by omega) : Calls Tryd.prog 35 #[v, .int .i64 (zz : Int)] W fun e w' => e = .returned (.bool true) ∧ W = w'))
          clear hb1t hb2t
          go_wp2_with fail
          refine (HRB.out _ wr (L.get (by simp))).mono ?_
          rintro e w' ⟨rfl, rfl⟩
          skip
          go_wp2_with fail
          refine (HNZ.out _ wr (L.get (by simp)) T2.out).mono ?_
          rintro e w' ⟨rfl, rfl⟩
          skip
          go_wp2_with fail
          refine (HRZ.out _ wr (L.get (by simp))).mono ?_
          rintro e w' ⟨rfl, rfl⟩
          skip
          go_wp2_with fail
          refine (HT1.out _ wr (L.get (by simp))).mono ?_
          rintro e w' ⟨rfl, rfl⟩
          skip
          go_wp2_with fail
          refine (HNZ.out _ wr (L.get (by simp)) T2.out).mono ?_
          rintro e w' ⟨rfl, rfl⟩
          skip
          go_wp2_with fail
          refine (HT2.out _ wr (L.get (by simp))).mono ?_
          rintro e w' ⟨rfl, rfl⟩
          skip
          go_wp2_with fail
          go_ret
          exact ⟨rfl, L.below⟩
      · have hk : ∃ t : Int, wr.cell? ⟨g, j, none⟩ = some (.int .i64 t) ∧ t ≤ 9223372036854775807 := by
          rcases (show j = 0 ∨ j = 1 ∨ j = 2 ∨ j = 3 ∨ j = 4 by omega) with rfl | rfl | rfl | rfl | rfl
          · exact ⟨a1, (B.cell (p := ⟨g, 0, none⟩) hgs).trans hc0, by omega⟩
          · exact ⟨m1, (B.cell (p := ⟨g, 1, none⟩) hgs).trans hc1, by omega⟩
          · exact ⟨((n : Int) - 1), (B.cell (p := ⟨g, 2, none⟩) hgs).trans hc2, by omega⟩
          · exact ⟨(n : Int), (B.cell (p := ⟨g, 3, none⟩) hgs).trans hc3, by omega⟩
          · exact ⟨(zz : Int), (B.cell (p := ⟨g, 4, none⟩) hgs).trans hc4, by omega⟩
        obtain ⟨t, hck, htb⟩ := hk
        clear hc0 hc1 hc2 hc3 hc4
        go_wp2_with fail
        refine (nbitI_any x t _ wr (L.get (by simp)) htb).mono ?_
        rintro e w' ⟨rfl, rfl⟩
        skip
        go_wp2_with fail
        refine (rbit_any x t _ wr (L.get (by simp)) htb).mono ?_
        rintro e w' ⟨rfl, rfl⟩
        generalize bitI x t = bt at *
        go_wp2_with fail
        go_roundw
        case rel => exact ⟨j + 1, by go_num, by omega, B⟩
        case measure => simp [intOf]; omega

end Go.Proofs.YtklbkgcjbekdfaaDoor
