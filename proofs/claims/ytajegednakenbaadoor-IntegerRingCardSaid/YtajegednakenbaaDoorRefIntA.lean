/- Walks: the reference's Valid, Nat, Of, Int, Sign, Same, Neg, Add. -/
import Derived.Test.YtajegednakenbaaDoorIntD
import Derived.Test.YtajegednakenbaaDoorRefC
import Derived.Test.YtajegednakenbaaDoorLiveA
import Derived.Deep.RegionHeld3
import Derived.Deep.DrawnRows
namespace Go.Proofs.YtajegednakenbaaDoor
open Go.RowKit
set_option linter.unusedVariables false
set_option linter.unusedSimpArgs false
attribute [local go_sem ↓] Go.wp_at_zero Go.wp_at_succ

set_option maxHeartbeats 1000000 in
theorem rznat_any (b : Bool) (l : List Nat) (A : Option Addr) (n c : Nat) (w : World) (h : Sl w A n c l) (hn : n ≤ 1099511627776) :
    Calls Tryd.prog 17 #[.bool b, .slice A n c] w (RetZ w (sg b (val l))) := by
  have hlv : len (val l) ≤ n := Nat.le_trans (len_val_le h.small) (by rw [h.len]; exact Nat.le_refl _)
  have HT := Lib.hid (fun W (hW : Below w.heap.size w W) => rtrim_any l A n c W (h.mono hW) (by omega))
  have HD := Lib.hid (dig_val h.small)
  generalize val l = x at *
  clear h
  rcases Nat.eq_zero_or_pos x with rfl | hx
  · have e : ∀ b, sg b 0 = 0 := fun b => by cases b <;> rfl
    rw [e]
    clear e
    cases b
    · skip
      go_enter Tryd.func17, Tryd.ntmps17
      go_wp2_with fail
      have L := ((Lz.mk0 w).box (w.heap.size) (by simp) false none 0 0)
      have hT := HT.out _ L.below
      rw [← HD.out] at hT
      have HT2 := Lib.hid hT
      clear hT HT
      refine (HT2.out).mono ?_
      rintro e w1 ⟨v1, rfl, o⟩
      replace L := (L.step o.below).n o.isN
      clear o
      clear HT2
      obtain ⟨A1, c1, rfl⟩ := L.hn.form
      rw [len_zero] at *
      have c00 := L.b0.c0
      have c01 := L.b0.c1
      have f00 := L.b0.fr 0
      have f01 := L.b0.fr 1
      go_wp2_with fail
      have LP := L.put (by omega) (by simp) (false) (A1) (0) (c1)
      have d0 := LP.b0.c0
      have d1 := LP.b0.c1
      unfold put2 at d0 d1
      exact bodyPost_ret (v := .agg #[.bool (false), .slice (A1) (0) (c1)]) (by simp [results, Tryd.results17, go_sem, d0, d1]) rfl (retZ_of (z := 0) LP.hn LP.below _ rfl rfl)
    · skip
      go_enter Tryd.func17, Tryd.ntmps17
      go_wp2_with fail
      have L := ((Lz.mk0 w).box (w.heap.size) (by simp) false none 0 0)
      have hT := HT.out _ L.below
      rw [← HD.out] at hT
      have HT2 := Lib.hid hT
      clear hT HT
      refine (HT2.out).mono ?_
      rintro e w1 ⟨v1, rfl, o⟩
      replace L := (L.step o.below).n o.isN
      clear o
      clear HT2
      obtain ⟨A1, c1, rfl⟩ := L.hn.form
      rw [len_zero] at *
      have c00 := L.b0.c0
      have c01 := L.b0.c1
      have f00 := L.b0.fr 0
      have f01 := L.b0.fr 1
      go_wp2_with fail
      have LP := L.put (by omega) (by simp) (false) (A1) (0) (c1)
      have d0 := LP.b0.c0
      have d1 := LP.b0.c1
      unfold put2 at d0 d1
      exact bodyPost_ret (v := .agg #[.bool (false), .slice (A1) (0) (c1)]) (by simp [results, Tryd.results17, go_sem, d0, d1]) rfl (retZ_of (z := 0) LP.hn LP.below _ rfl rfl)
  · have hp := len_pos hx
    have e1 : ng (sg true x) = true := by rw [sg_ng, decide_eq_true hx]; rfl
    have e2 : ng (sg false x) = false := by rw [sg_ng]; rfl
    have E1 := Lib.hid e1
    have E2 := Lib.hid e2
    clear e1 e2
    cases b
    · skip
      go_enter Tryd.func17, Tryd.ntmps17
      go_wp2_with fail
      have L := ((Lz.mk0 w).box (w.heap.size) (by simp) false none 0 0)
      have hT := HT.out _ L.below
      rw [← HD.out] at hT
      have HT2 := Lib.hid hT
      clear hT HT
      refine (HT2.out).mono ?_
      rintro e w1 ⟨v1, rfl, o⟩
      replace L := (L.step o.below).n o.isN
      clear o
      clear HT2
      obtain ⟨A1, c1, rfl⟩ := L.hn.form
      have c00 := L.b0.c0
      have c01 := L.b0.c1
      have f00 := L.b0.fr 0
      have f01 := L.b0.fr 1
      go_wp2_with fail
      have LP := L.put (by omega) (by simp) (false) (A1) ((len x)) (c1)
      have d0 := LP.b0.c0
      have d1 := LP.b0.c1
      unfold put2 at d0 d1
      exact bodyPost_ret (v := .agg #[.bool (false), .slice (A1) ((len x)) (c1)]) (by simp [results, Tryd.results17, go_sem, d0, d1]) rfl (retZ_of (by rw [sg_abs]; exact LP.hn) LP.below _ E2.out.symm rfl)
    · skip
      go_enter Tryd.func17, Tryd.ntmps17
      go_wp2_with fail
      have L := ((Lz.mk0 w).box (w.heap.size) (by simp) false none 0 0)
      have hT := HT.out _ L.below
      rw [← HD.out] at hT
      have HT2 := Lib.hid hT
      clear hT HT
      refine (HT2.out).mono ?_
      rintro e w1 ⟨v1, rfl, o⟩
      replace L := (L.step o.below).n o.isN
      clear o
      clear HT2
      obtain ⟨A1, c1, rfl⟩ := L.hn.form
      have c00 := L.b0.c0
      have c01 := L.b0.c1
      have f00 := L.b0.fr 0
      have f01 := L.b0.fr 1
      go_wp2_with fail
      have LP := L.put (by omega) (by simp) (true) (A1) ((len x)) (c1)
      have d0 := LP.b0.c0
      have d1 := LP.b0.c1
      unfold put2 at d0 d1
      exact bodyPost_ret (v := .agg #[.bool (true), .slice (A1) ((len x)) (c1)]) (by simp [results, Tryd.results17, go_sem, d0, d1]) rfl (retZ_of (by rw [sg_abs]; exact LP.hn) LP.below _ E1.out.symm rfl)

theorem rznatN_any (b : Bool) (x : Nat) (s : Value) (w : World) (hs : IsN w s x) (hl : len x ≤ 1099511627776) :
    Calls Tryd.prog 17 #[.bool b, s] w (RetZ w (sg b x)) := by
  obtain ⟨A, n, c, rfl, hs⟩ := hs
  have := hs.len
  rw [length_dig] at this
  have := rznat_any b _ A n c w hs (by omega)
  rwa [val_dig] at this

set_option maxHeartbeats 1000000 in
theorem rzvalid_any (b : Bool) (l : List Nat) (A : Option Addr) (n c : Nat) (w : World) (h : Sl w A n c l) :
    Calls Tryd.prog 15 #[.agg #[.bool b, .slice A n c]] w (RetB w (sval b l)) := by
  have hn := h.len
  have H := Lib.hid (fun W (hW : Below w.heap.size w W) => rvalid_any l A n c W (h.mono hW))
  unfold sval
  rw [hn]
  clear h hn
  generalize isTrim l = it at *
  rcases Nat.eq_zero_or_pos n with rfl | hn
  · skip
    cases b
    · cases it
      · have B := (Below.refl w.heap.size w).alloc (Nat.le_refl _) (.cells #[.bool false, .slice A 0 c] 24)
        go_enter Tryd.func15, Tryd.ntmps15
        go_wp2_with fail
        refine (H.out _ B).mono ?_
        rintro e w' ⟨rfl, rfl⟩
        go_wp2_with fail
        go_ret
        exact ⟨rfl, B⟩
      · have B := (Below.refl w.heap.size w).alloc (Nat.le_refl _) (.cells #[.bool false, .slice A 0 c] 24)
        go_enter Tryd.func15, Tryd.ntmps15
        go_wp2_with fail
        refine (H.out _ B).mono ?_
        rintro e w' ⟨rfl, rfl⟩
        go_wp2_with fail
        go_ret
        exact ⟨rfl, B⟩
    · cases it
      · have B := (Below.refl w.heap.size w).alloc (Nat.le_refl _) (.cells #[.bool true, .slice A 0 c] 24)
        go_enter Tryd.func15, Tryd.ntmps15
        go_wp2_with fail
        refine (H.out _ B).mono ?_
        rintro e w' ⟨rfl, rfl⟩
        go_wp2_with fail
        go_ret
        exact ⟨rfl, B⟩
      · have B := (Below.refl w.heap.size w).alloc (Nat.le_refl _) (.cells #[.bool true, .slice A 0 c] 24)
        go_enter Tryd.func15, Tryd.ntmps15
        go_wp2_with fail
        refine (H.out _ B).mono ?_
        rintro e w' ⟨rfl, rfl⟩
        go_wp2_with fail
        go_ret
        exact ⟨rfl, B⟩
  · have hz : ((n : Int) == 0) = false := by rw [beq_eq_false_iff_ne]; omega
    have HD := Lib.hid (show decide (0 < n) = true from decide_eq_true hn)
    cases b
    · cases it
      · have B := (Below.refl w.heap.size w).alloc (Nat.le_refl _) (.cells #[.bool false, .slice A n c] 24)
        go_enter Tryd.func15, Tryd.ntmps15
        go_wp2_with fail
        refine (H.out _ B).mono ?_
        rintro e w' ⟨rfl, rfl⟩
        go_wp2_with fail
        go_ret
        exact ⟨rfl, B⟩
      · have B := (Below.refl w.heap.size w).alloc (Nat.le_refl _) (.cells #[.bool false, .slice A n c] 24)
        go_enter Tryd.func15, Tryd.ntmps15
        go_wp2_with fail
        refine (H.out _ B).mono ?_
        rintro e w' ⟨rfl, rfl⟩
        go_wp2_with fail
        go_ret
        exact ⟨rfl, B⟩
    · cases it
      · have B := (Below.refl w.heap.size w).alloc (Nat.le_refl _) (.cells #[.bool true, .slice A n c] 24)
        go_enter Tryd.func15, Tryd.ntmps15
        go_wp2_with fail
        refine (H.out _ B).mono ?_
        rintro e w' ⟨rfl, rfl⟩
        go_wp2_with fail
        go_ret
        exact ⟨rfl, B⟩
      · have B := (Below.refl w.heap.size w).alloc (Nat.le_refl _) (.cells #[.bool true, .slice A n c] 24)
        go_enter Tryd.func15, Tryd.ntmps15
        go_wp2_with fail
        refine (H.out _ B).mono ?_
        rintro e w' ⟨rfl, rfl⟩
        go_wp2_with fail
        go_ret
        exact ⟨by rw [HD.out]; rfl, B⟩

set_option maxHeartbeats 1000000 in
theorem rzof_any (n : Int) (w : World) (h1 : -9223372036854775808 ≤ n) (h2 : n ≤ 9223372036854775807) :
    Calls Tryd.prog 18 #[.int .i64 n] w (RetZ w n) := by
  rcases Int.lt_or_le n 0 with hneg | hpos
  · obtain ⟨k, rfl⟩ : ∃ k : Nat, n = -(k : Int) := ⟨n.natAbs, by omega⟩
    have hk : 0 < k := by omega
    have hk2 : k ≤ 9223372036854775808 := by omega
    obtain ⟨u, hu⟩ : ∃ u : Nat, IntKind.u64.wrap (-(k : Int)) = (u : Int) := ⟨(IntKind.u64.wrap (-(k : Int))).toNat, by rw [IntKind.wrap_u64]; omega⟩
    have hu2 : IntKind.u64.wrap (-(u : Int)) = (k : Int) := by rw [IntKind.wrap_u64] at *; omega
    have HK := Lib.hid (show sg true k = -(k : Int) from rfl)
    have hlk : len k ≤ 2 := len_le2 (by omega)
    have HO := Lib.hid (fun W => rof_any k W (by omega))
    have hlt : -(k : Int) < 0 := by omega
    go_enter Tryd.func18, Tryd.ntmps18
    go_wp2_with fail
    have L := ((Lz.mk0 w).box (w.heap.size) (by simp) false none 0 0)
    refine (HO.out _).mono ?_
    rintro e w1 ⟨v1, rfl, o⟩
    replace L := (L.step o.below).n o.isN
    clear o
    have c00 := L.b0.c0
    have c01 := L.b0.c1
    have f00 := L.b0.fr 0
    have f01 := L.b0.fr 1
    go_wp2_with fail
    refine (rznatN_any true k _ _ L.hn (by omega)).mono ?_
    rintro e w2 ⟨v3, rfl, iz, be⟩
    clear c00 c01 f00 f01
    replace L := (L.step be).z iz
    obtain ⟨A3, c3, rfl, _⟩ := iz.form
    clear be iz
    have c00 := L.b0.c0
    have c01 := L.b0.c1
    have f00 := L.b0.fr 0
    have f01 := L.b0.fr 1
    go_wp2_with fail
    have LP := L.put (by omega) (by simp) (ng (sg true k)) (A3) (zl (sg true k)) (c3)
    have d0 := LP.b0.c0
    have d1 := LP.b0.c1
    unfold put2 at d0 d1
    exact bodyPost_ret (v := .agg #[.bool (ng (sg true k)), .slice (A3) (zl (sg true k)) (c3)]) (by simp [results, Tryd.results18, go_sem, d0, d1]) rfl ⟨_, rfl, HK.out ▸ LP.hz, LP.below⟩
  · obtain ⟨k, rfl⟩ : ∃ k : Nat, n = (k : Int) := ⟨n.natAbs, by omega⟩
    have hu : IntKind.u64.wrap (k : Int) = (k : Int) := by rw [IntKind.wrap_u64]; omega
    have HK := Lib.hid (show sg false k = (k : Int) from rfl)
    have hlk : len k ≤ 2 := len_le2 (by omega)
    have HO := Lib.hid (fun W => rof_any k W (by omega))
    go_enter Tryd.func18, Tryd.ntmps18
    go_wp2_with fail
    have L := ((Lz.mk0 w).box (w.heap.size) (by simp) false none 0 0)
    refine (HO.out _).mono ?_
    rintro e w1 ⟨v1, rfl, o⟩
    replace L := (L.step o.below).n o.isN
    clear o
    have c00 := L.b0.c0
    have c01 := L.b0.c1
    have f00 := L.b0.fr 0
    have f01 := L.b0.fr 1
    go_wp2_with fail
    refine (rznatN_any false k _ _ L.hn (by omega)).mono ?_
    rintro e w2 ⟨v3, rfl, iz, be⟩
    clear c00 c01 f00 f01
    replace L := (L.step be).z iz
    obtain ⟨A3, c3, rfl, _⟩ := iz.form
    clear be iz
    have c00 := L.b0.c0
    have c01 := L.b0.c1
    have f00 := L.b0.fr 0
    have f01 := L.b0.fr 1
    go_wp2_with fail
    have LP := L.put (by omega) (by simp) (ng (sg false k)) (A3) (zl (sg false k)) (c3)
    have d0 := LP.b0.c0
    have d1 := LP.b0.c1
    unfold put2 at d0 d1
    exact bodyPost_ret (v := .agg #[.bool (ng (sg false k)), .slice (A3) (zl (sg false k)) (c3)]) (by simp [results, Tryd.results18, go_sem, d0, d1]) rfl ⟨_, rfl, HK.out ▸ LP.hz, LP.below⟩

set_option maxHeartbeats 2000000 in
theorem rzint_any (x : Int) (vx : Value) (w : World) (hx : IsZ w vx x) :
    Calls Tryd.prog 12 #[vx] w (RetIB w (zi x) (zb x)) := by
  obtain ⟨A, c, rfl, ix⟩ := hx.form
  have L0 := ((Lz.mk0 w).n ix)
  clear hx ix
  have HU := fun W h => ruintB_any x.natAbs (.slice A (zl x) c) W h
  rcases Nat.lt_or_ge x.natAbs 18446744073709551616 with hlt | hge
  · rw [show ux x.natAbs = x.natAbs from if_pos hlt, show ub x.natAbs = true from decide_eq_true hlt] at HU
    have HU2 := Lib.hid HU
    clear HU
    obtain ⟨u, hu⟩ : ∃ u, x.natAbs = u := ⟨_, rfl⟩
    rw [hu] at HU2 L0 hlt
    rcases Int.lt_or_le x 0 with hneg | hpos
    · rw [ng_yes hneg]
      obtain rfl : x = -(u : Int) := by omega
      rcases Nat.lt_or_ge 9223372036854775808 u with hbig | hsmall
      · have HB := Lib.hid (zb_no (z := (-(u : Int))) (by omega))
        have HI := Lib.hid (zi_no (z := (-(u : Int))) (by omega))
        clear hu hneg
        go_enter Tryd.func12, Tryd.ntmps12
        go_wp2_with fail
        have L := (L0.box (w.heap.size) (by simp) true A (zl (-(u : Int))) c)
        refine (HU2.out _ (L.getN (by simp))).mono ?_
        rintro e w1 ⟨rfl, be⟩
        replace L := L.step be
        clear be HU2
        have c00 := L.b0.c0
        have c01 := L.b0.c1
        have f00 := L.b0.fr 0
        have f01 := L.b0.fr 1
        go_wp2_with fail
        go_ret2
        exact retIB_of L.below (by rw [HI.out]) HB.out.symm
      · have HB := Lib.hid (zb_yes (z := (-(u : Int))) (by omega) (by omega))
        have HI := Lib.hid (zi_yes (z := (-(u : Int))) (by omega) (by omega))
        have hw1 : IntKind.i64.wrap (IntKind.u64.wrap (-(u : Int))) = -(u : Int) := by rw [IntKind.wrap_u64, IntKind.wrap_i64]; omega
        clear hu hneg
        go_enter Tryd.func12, Tryd.ntmps12
        go_wp2_with fail
        have L := (L0.box (w.heap.size) (by simp) true A (zl (-(u : Int))) c)
        refine (HU2.out _ (L.getN (by simp))).mono ?_
        rintro e w1 ⟨rfl, be⟩
        replace L := L.step be
        clear be HU2
        have c00 := L.b0.c0
        have c01 := L.b0.c1
        have f00 := L.b0.fr 0
        have f01 := L.b0.fr 1
        go_wp2_with fail
        go_ret2
        exact retIB_of L.below (by rw [HI.out]) HB.out.symm
    · rw [ng_no hpos]
      obtain rfl : x = (u : Int) := by omega
      rcases Nat.lt_or_ge 9223372036854775807 u with hbig | hsmall
      · have HB := Lib.hid (zb_no (z := (u : Int)) (by omega))
        have HI := Lib.hid (zi_no (z := (u : Int)) (by omega))
        clear hu hpos
        go_enter Tryd.func12, Tryd.ntmps12
        go_wp2_with fail
        have L := (L0.box (w.heap.size) (by simp) false A (zl (u : Int)) c)
        refine (HU2.out _ (L.getN (by simp))).mono ?_
        rintro e w1 ⟨rfl, be⟩
        replace L := L.step be
        clear be HU2
        have c00 := L.b0.c0
        have c01 := L.b0.c1
        have f00 := L.b0.fr 0
        have f01 := L.b0.fr 1
        go_wp2_with fail
        go_ret2
        exact retIB_of L.below (by rw [HI.out]) HB.out.symm
      · have HB := Lib.hid (zb_yes (z := (u : Int)) (by omega) (by omega))
        have HI := Lib.hid (zi_yes (z := (u : Int)) (by omega) (by omega))
        have hw1 : IntKind.i64.wrap (u : Int) = (u : Int) := by rw [IntKind.wrap_i64]; omega
        clear hu hpos
        go_enter Tryd.func12, Tryd.ntmps12
        go_wp2_with fail
        have L := (L0.box (w.heap.size) (by simp) false A (zl (u : Int)) c)
        refine (HU2.out _ (L.getN (by simp))).mono ?_
        rintro e w1 ⟨rfl, be⟩
        replace L := L.step be
        clear be HU2
        have c00 := L.b0.c0
        have c01 := L.b0.c1
        have f00 := L.b0.fr 0
        have f01 := L.b0.fr 1
        go_wp2_with fail
        go_ret2
        exact retIB_of L.below (by rw [HI.out]) HB.out.symm
  · rw [show ux x.natAbs = 0 from if_neg (by omega), show ub x.natAbs = false from decide_eq_false (by omega)] at HU
    have HU2 := Lib.hid HU
    have HB := Lib.hid (zb_no (z := x) (by omega))
    have HI := Lib.hid (zi_no (z := x) (by omega))
    clear HU hge
    generalize ng x = b at *
    cases b
    · skip
      go_enter Tryd.func12, Tryd.ntmps12
      go_wp2_with fail
      have L := L0.box w.heap.size (by simp) false A (zl x) c
      refine (HU2.out _ (L.getN (by simp))).mono ?_
      rintro e w1 ⟨rfl, be⟩
      replace L := L.step be
      clear be HU2
      have c00 := L.b0.c0
      have c01 := L.b0.c1
      have f00 := L.b0.fr 0
      have f01 := L.b0.fr 1
      go_wp2_with fail
      go_ret2
      exact retIB_of L.below (by rw [HI.out]) HB.out.symm
    · skip
      go_enter Tryd.func12, Tryd.ntmps12
      go_wp2_with fail
      have L := L0.box w.heap.size (by simp) true A (zl x) c
      refine (HU2.out _ (L.getN (by simp))).mono ?_
      rintro e w1 ⟨rfl, be⟩
      replace L := L.step be
      clear be HU2
      have c00 := L.b0.c0
      have c01 := L.b0.c1
      have f00 := L.b0.fr 0
      have f01 := L.b0.fr 1
      go_wp2_with fail
      go_ret2
      exact retIB_of L.below (by rw [HI.out]) HB.out.symm

set_option maxHeartbeats 1000000 in
theorem rzsign_any (x : Int) (vx : Value) (w : World) (hx : IsZ w vx x) (lx : zl x ≤ 274877906944) :
    Calls Tryd.prog 23 #[vx] w (RetI w (cmpI x 0)) := by
  obtain ⟨A, c, rfl, ix⟩ := hx.form
  have hlx := abs_le lx
  have L0 := (((Lz.mk0 w).n ix).z hx)
  clear hx ix
  rcases Int.lt_trichotomy x 0 with h | h | h
  · have HC := Lib.hid (cmpI_lt h)
    rw [ng_yes h] at L0 ⊢
    have hbl := zl_pos (z := x) (by omega)
    clear h
    go_enter Tryd.func23, Tryd.ntmps23
    go_wp2_with fail
    have L := (L0.box (w.heap.size) (by simp) true A (zl x) c)
    go_ret
    exact ⟨by rw [HC.out] <;> rfl, L.below⟩
  · subst h
    have HC := Lib.hid (cmpI_eq 0)
    rw [zl_zero, show ng 0 = false from rfl] at L0 ⊢
    skip
    go_enter Tryd.func23, Tryd.ntmps23
    go_wp2_with fail
    have L := (L0.box (w.heap.size) (by simp) false A 0 c)
    go_ret
    exact ⟨by rw [HC.out] <;> rfl, L.below⟩
  · have HC := Lib.hid (cmpI_gt h)
    rw [ng_no (by omega)] at L0 ⊢
    have hbl := zl_pos (z := x) (by omega)
    clear h
    go_enter Tryd.func23, Tryd.ntmps23
    go_wp2_with fail
    have L := (L0.box (w.heap.size) (by simp) false A (zl x) c)
    go_ret
    exact ⟨by rw [HC.out] <;> rfl, L.below⟩

set_option maxHeartbeats 1000000 in
theorem zsame_yes (x y : Int) (vx vy : Value) (w : World) (hx : IsZ w vx x) (hy : IsZ w vy y) (h : x = y) :
    Calls Tryd.prog 16 #[vx, vy] w (RetB w true) := by
  subst h
  obtain ⟨A, c, rfl, ix⟩ := hx.form
  obtain ⟨B, d, rfl, iy⟩ := hy.form
  have L0 := (((Lz.mk0 w).n iy).n ix)
  clear hx hy ix iy
  have HS := Lib.hid (fun W h1 h2 => same_yes x.natAbs x.natAbs (.slice A (zl x) c) (.slice B (zl x) d) W h1 h2 rfl)
  generalize ng x = b at *
  go_enter Tryd.func16, Tryd.ntmps16
  go_wp2_with fail
  have L := ((L0.box (w.heap.size) (by simp) b A (zl x) c).box (w.heap.size + 1) (by simp) b B (zl x) d)
  refine (HS.out _ (L.getN (by simp)) (L.getN (by simp))).mono ?_
  rintro e w' ⟨rfl, rfl⟩
  go_wp2_with fail
  go_ret
  exact ⟨rfl, L.below⟩

end Go.Proofs.YtajegednakenbaaDoor
