/- Walks: integer.Valid, Of, Int, Sign, Cmp. -/
import Derived.Test.YtajegednakenbaaDoorIntC
import Derived.Test.YtajegednakenbaaDoorNBits
namespace Go.Proofs.YtajegednakenbaaDoor
open Go.RowKit
set_option linter.unusedVariables false
set_option linter.unusedSimpArgs false

def sval (b : Bool) (l : List Nat) : Bool := isTrim l && (!b || decide (0 < l.length))
theorem sval_z (z : Int) : sval (ng z) (dig z.natAbs) = true := by
  unfold sval
  rw [isTrim_dig, Bool.true_and, length_dig]
  by_cases h : z < 0
  · rw [decide_eq_true (show 0 < len z.natAbs from zl_pos (by omega))]; simp
  · rw [ng_no (by omega)]; rfl

set_option maxHeartbeats 1000000 in
theorem zvalid_any (b : Bool) (l : List Nat) (A : Option Addr) (n c : Nat) (w : World) (h : Sl w A n c l) :
    Calls Tryd.prog 14 #[.agg #[.bool b, .slice A n c]] w (RetB w (sval b l)) := by
  have hn := h.len
  have H := Lib.hid (fun W (hW : Below w.heap.size w W) => valid_any l A n c W (h.mono hW))
  unfold sval
  rw [hn]
  clear h hn
  generalize isTrim l = it at *
  rcases Nat.eq_zero_or_pos n with rfl | hn
  · skip
    cases b
    · cases it
      · have B := (Below.refl w.heap.size w).alloc (Nat.le_refl _) (.cells #[.bool false, .slice A 0 c] 24)
        go_enter Tryd.func14, Tryd.ntmps14
        go_wp2_with fail
        refine (H.out _ B).mono ?_
        rintro e w' ⟨rfl, rfl⟩
        go_wp2_with fail
        go_ret
        exact ⟨rfl, B⟩
      · have B := (Below.refl w.heap.size w).alloc (Nat.le_refl _) (.cells #[.bool false, .slice A 0 c] 24)
        go_enter Tryd.func14, Tryd.ntmps14
        go_wp2_with fail
        refine (H.out _ B).mono ?_
        rintro e w' ⟨rfl, rfl⟩
        go_wp2_with fail
        go_ret
        exact ⟨rfl, B⟩
    · cases it
      · have B := (Below.refl w.heap.size w).alloc (Nat.le_refl _) (.cells #[.bool true, .slice A 0 c] 24)
        go_enter Tryd.func14, Tryd.ntmps14
        go_wp2_with fail
        refine (H.out _ B).mono ?_
        rintro e w' ⟨rfl, rfl⟩
        go_wp2_with fail
        go_ret
        exact ⟨rfl, B⟩
      · have B := (Below.refl w.heap.size w).alloc (Nat.le_refl _) (.cells #[.bool true, .slice A 0 c] 24)
        go_enter Tryd.func14, Tryd.ntmps14
        go_wp2_with fail
        refine (H.out _ B).mono ?_
        rintro e w' ⟨rfl, rfl⟩
        go_wp2_with fail
        go_ret
        exact ⟨rfl, B⟩
  · have hz : ((n : Int) == 0) = false := by rw [beq_eq_false_iff_ne]; omega
    have HD := Lib.hid (show decide (0 < n) = true from decide_eq_true hn)
    cases b
    · cases it
      · have B := (Below.refl w.heap.size w).alloc (Nat.le_refl _) (.cells #[.bool false, .slice A n c] 24)
        go_enter Tryd.func14, Tryd.ntmps14
        go_wp2_with fail
        refine (H.out _ B).mono ?_
        rintro e w' ⟨rfl, rfl⟩
        go_wp2_with fail
        go_ret
        exact ⟨rfl, B⟩
      · have B := (Below.refl w.heap.size w).alloc (Nat.le_refl _) (.cells #[.bool false, .slice A n c] 24)
        go_enter Tryd.func14, Tryd.ntmps14
        go_wp2_with fail
        refine (H.out _ B).mono ?_
        rintro e w' ⟨rfl, rfl⟩
        go_wp2_with fail
        go_ret
        exact ⟨rfl, B⟩
    · cases it
      · have B := (Below.refl w.heap.size w).alloc (Nat.le_refl _) (.cells #[.bool true, .slice A n c] 24)
        go_enter Tryd.func14, Tryd.ntmps14
        go_wp2_with fail
        refine (H.out _ B).mono ?_
        rintro e w' ⟨rfl, rfl⟩
        go_wp2_with fail
        go_ret
        exact ⟨rfl, B⟩
      · have B := (Below.refl w.heap.size w).alloc (Nat.le_refl _) (.cells #[.bool true, .slice A n c] 24)
        go_enter Tryd.func14, Tryd.ntmps14
        go_wp2_with fail
        refine (H.out _ B).mono ?_
        rintro e w' ⟨rfl, rfl⟩
        go_wp2_with fail
        go_ret
        exact ⟨by rw [HD.out]; rfl, B⟩

theorem zvalidZ_any (z : Int) (v : Value) (w : World) (h : IsZ w v z) : Calls Tryd.prog 14 #[v] w (RetB w true) := by
  obtain ⟨s, rfl, A, n, c, rfl, hs⟩ := h
  have := zvalid_any (ng z) _ A n c w hs
  rwa [sval_z] at this

set_option maxHeartbeats 1000000 in
theorem zof_any (n : Int) (w : World) (h1 : -9223372036854775808 ≤ n) (h2 : n ≤ 9223372036854775807) :
    Calls Tryd.prog 13 #[.int .i64 n] w (RetZ w n) := by
  rcases Int.lt_or_le n 0 with hneg | hpos
  · obtain ⟨k, rfl⟩ : ∃ k : Nat, n = -(k : Int) := ⟨n.natAbs, by omega⟩
    have hk : 0 < k := by omega
    have hk2 : k ≤ 9223372036854775808 := by omega
    obtain ⟨u, hu⟩ : ∃ u : Nat, IntKind.u64.wrap (-(k : Int)) = (u : Int) := ⟨(IntKind.u64.wrap (-(k : Int))).toNat, by rw [IntKind.wrap_u64]; omega⟩
    have hu2 : IntKind.u64.wrap (-(u : Int)) = (k : Int) := by rw [IntKind.wrap_u64] at *; omega
    have HK := Lib.hid (show sg true k = -(k : Int) from rfl)
    have hlk : len k ≤ 2 := len_le2 (by omega)
    have HO := Lib.hid (fun W => of_any k W (by omega))
    have hlt : -(k : Int) < 0 := by omega
    go_enter Tryd.func13, Tryd.ntmps13
    go_wp2_with fail
    have L := ((Lz.mk0 w).box (w.heap.size) (by simp) false none 0 0)
    refine (HO.out _).mono ?_
    rintro e w1 ⟨v1, rfl, o⟩
    replace L := (L.step o.below).n o.isN
    clear o
    have c00 := L.b0.c0
    have c01 := L.b0.c1
    have f00 := L.b0.fr 0
    have f01 := L.b0.fr 1
    go_wp2_with fail
    refine (signed_any true k _ _ L.hn (by omega)).mono ?_
    rintro e w2 ⟨v3, rfl, iz, be⟩
    clear c00 c01 f00 f01
    replace L := (L.step be).z iz
    obtain ⟨A3, c3, rfl, _⟩ := iz.form
    clear be iz
    have c00 := L.b0.c0
    have c01 := L.b0.c1
    have f00 := L.b0.fr 0
    have f01 := L.b0.fr 1
    go_wp2_with fail
    have LP := L.put (by omega) (by simp) (ng (sg true k)) (A3) (zl (sg true k)) (c3)
    have d0 := LP.b0.c0
    have d1 := LP.b0.c1
    unfold put2 at d0 d1
    exact bodyPost_ret (v := .agg #[.bool (ng (sg true k)), .slice (A3) (zl (sg true k)) (c3)]) (by simp [results, Tryd.results13, go_sem, d0, d1]) rfl ⟨_, rfl, HK.out ▸ LP.hz, LP.below⟩
  · obtain ⟨k, rfl⟩ : ∃ k : Nat, n = (k : Int) := ⟨n.natAbs, by omega⟩
    have hu : IntKind.u64.wrap (k : Int) = (k : Int) := by rw [IntKind.wrap_u64]; omega
    have HK := Lib.hid (show sg false k = (k : Int) from rfl)
    have hlk : len k ≤ 2 := len_le2 (by omega)
    have HO := Lib.hid (fun W => of_any k W (by omega))
    go_enter Tryd.func13, Tryd.ntmps13
    go_wp2_with fail
    have L := ((Lz.mk0 w).box (w.heap.size) (by simp) false none 0 0)
    refine (HO.out _).mono ?_
    rintro e w1 ⟨v1, rfl, o⟩
    replace L := (L.step o.below).n o.isN
    clear o
    have c00 := L.b0.c0
    have c01 := L.b0.c1
    have f00 := L.b0.fr 0
    have f01 := L.b0.fr 1
    go_wp2_with fail
    refine (signed_any false k _ _ L.hn (by omega)).mono ?_
    rintro e w2 ⟨v3, rfl, iz, be⟩
    clear c00 c01 f00 f01
    replace L := (L.step be).z iz
    obtain ⟨A3, c3, rfl, _⟩ := iz.form
    clear be iz
    have c00 := L.b0.c0
    have c01 := L.b0.c1
    have f00 := L.b0.fr 0
    have f01 := L.b0.fr 1
    go_wp2_with fail
    have LP := L.put (by omega) (by simp) (ng (sg false k)) (A3) (zl (sg false k)) (c3)
    have d0 := LP.b0.c0
    have d1 := LP.b0.c1
    unfold put2 at d0 d1
    exact bodyPost_ret (v := .agg #[.bool (ng (sg false k)), .slice (A3) (zl (sg false k)) (c3)]) (by simp [results, Tryd.results13, go_sem, d0, d1]) rfl ⟨_, rfl, HK.out ▸ LP.hz, LP.below⟩

/-- The int that an integer is, if it is one. -/
def zb (z : Int) : Bool := decide (-9223372036854775808 ≤ z ∧ z ≤ 9223372036854775807)
def zi (z : Int) : Int := if -9223372036854775808 ≤ z ∧ z ≤ 9223372036854775807 then z else 0
theorem zb_yes {z : Int} (h1 : -9223372036854775808 ≤ z) (h2 : z ≤ 9223372036854775807) : zb z = true := decide_eq_true ⟨h1, h2⟩
theorem zi_yes {z : Int} (h1 : -9223372036854775808 ≤ z) (h2 : z ≤ 9223372036854775807) : zi z = z := if_pos ⟨h1, h2⟩
theorem zb_no {z : Int} (h : ¬ (-9223372036854775808 ≤ z ∧ z ≤ 9223372036854775807)) : zb z = false := decide_eq_false h
theorem zi_no {z : Int} (h : ¬ (-9223372036854775808 ≤ z ∧ z ≤ 9223372036854775807)) : zi z = 0 := if_neg h
def RetIB (w : World) (x : Int) (b : Bool) (e : Ending) (w' : World) : Prop := e = .returned (.tuple #[.int .i64 x, .bool b]) ∧ Below w.heap.size w w'
theorem retIB_of {w w' : World} {x y : Int} {b b' : Bool} (h : Below w.heap.size w w') (e : x = y) (e2 : b = b') : RetIB w y b' (.returned (.tuple #[.int .i64 x, .bool b])) w' := by
  subst e; subst e2; exact ⟨rfl, h⟩

set_option maxHeartbeats 2000000 in
theorem zint_any (x : Int) (vx : Value) (w : World) (hx : IsZ w vx x) :
    Calls Tryd.prog 11 #[vx] w (RetIB w (zi x) (zb x)) := by
  obtain ⟨A, c, rfl, ix⟩ := hx.form
  have L0 := ((Lz.mk0 w).n ix)
  clear hx ix
  have HU := fun W h => uintB_any x.natAbs (.slice A (zl x) c) W h
  rcases Nat.lt_or_ge x.natAbs 18446744073709551616 with hlt | hge
  · rw [show ux x.natAbs = x.natAbs from if_pos hlt, show ub x.natAbs = true from decide_eq_true hlt] at HU
    have HU2 := Lib.hid HU
    clear HU
    obtain ⟨u, hu⟩ : ∃ u, x.natAbs = u := ⟨_, rfl⟩
    rw [hu] at HU2 L0 hlt
    rcases Int.lt_or_le x 0 with hneg | hpos
    · rw [ng_yes hneg]
      obtain rfl : x = -(u : Int) := by omega
      rcases Nat.lt_or_ge 9223372036854775808 u with hbig | hsmall
      · have HB := Lib.hid (zb_no (z := (-(u : Int))) (by omega))
        have HI := Lib.hid (zi_no (z := (-(u : Int))) (by omega))
        clear hu hneg
        go_enter Tryd.func11, Tryd.ntmps11
        go_wp2_with fail
        have L := (L0.box (w.heap.size) (by simp) true A (zl (-(u : Int))) c)
        refine (HU2.out _ (L.getN (by simp))).mono ?_
        rintro e w1 ⟨rfl, be⟩
        replace L := L.step be
        clear be HU2
        have c00 := L.b0.c0
        have c01 := L.b0.c1
        have f00 := L.b0.fr 0
        have f01 := L.b0.fr 1
        go_wp2_with fail
        go_ret2
        exact retIB_of L.below (by rw [HI.out]) HB.out.symm
      · have HB := Lib.hid (zb_yes (z := (-(u : Int))) (by omega) (by omega))
        have HI := Lib.hid (zi_yes (z := (-(u : Int))) (by omega) (by omega))
        have hw1 : IntKind.i64.wrap (IntKind.u64.wrap (-(u : Int))) = -(u : Int) := by rw [IntKind.wrap_u64, IntKind.wrap_i64]; omega
        clear hu hneg
        go_enter Tryd.func11, Tryd.ntmps11
        go_wp2_with fail
        have L := (L0.box (w.heap.size) (by simp) true A (zl (-(u : Int))) c)
        refine (HU2.out _ (L.getN (by simp))).mono ?_
        rintro e w1 ⟨rfl, be⟩
        replace L := L.step be
        clear be HU2
        have c00 := L.b0.c0
        have c01 := L.b0.c1
        have f00 := L.b0.fr 0
        have f01 := L.b0.fr 1
        go_wp2_with fail
        go_ret2
        exact retIB_of L.below (by rw [HI.out]) HB.out.symm
    · rw [ng_no hpos]
      obtain rfl : x = (u : Int) := by omega
      rcases Nat.lt_or_ge 9223372036854775807 u with hbig | hsmall
      · have HB := Lib.hid (zb_no (z := (u : Int)) (by omega))
        have HI := Lib.hid (zi_no (z := (u : Int)) (by omega))
        clear hu hpos
        go_enter Tryd.func11, Tryd.ntmps11
        go_wp2_with fail
        have L := (L0.box (w.heap.size) (by simp) false A (zl (u : Int)) c)
        refine (HU2.out _ (L.getN (by simp))).mono ?_
        rintro e w1 ⟨rfl, be⟩
        replace L := L.step be
        clear be HU2
        have c00 := L.b0.c0
        have c01 := L.b0.c1
        have f00 := L.b0.fr 0
        have f01 := L.b0.fr 1
        go_wp2_with fail
        go_ret2
        exact retIB_of L.below (by rw [HI.out]) HB.out.symm
      · have HB := Lib.hid (zb_yes (z := (u : Int)) (by omega) (by omega))
        have HI := Lib.hid (zi_yes (z := (u : Int)) (by omega) (by omega))
        have hw1 : IntKind.i64.wrap (u : Int) = (u : Int) := by rw [IntKind.wrap_i64]; omega
        clear hu hpos
        go_enter Tryd.func11, Tryd.ntmps11
        go_wp2_with fail
        have L := (L0.box (w.heap.size) (by simp) false A (zl (u : Int)) c)
        refine (HU2.out _ (L.getN (by simp))).mono ?_
        rintro e w1 ⟨rfl, be⟩
        replace L := L.step be
        clear be HU2
        have c00 := L.b0.c0
        have c01 := L.b0.c1
        have f00 := L.b0.fr 0
        have f01 := L.b0.fr 1
        go_wp2_with fail
        go_ret2
        exact retIB_of L.below (by rw [HI.out]) HB.out.symm
  · rw [show ux x.natAbs = 0 from if_neg (by omega), show ub x.natAbs = false from decide_eq_false (by omega)] at HU
    have HU2 := Lib.hid HU
    have HB := Lib.hid (zb_no (z := x) (by omega))
    have HI := Lib.hid (zi_no (z := x) (by omega))
    clear HU hge
    generalize ng x = b at *
    cases b
    · skip
      go_enter Tryd.func11, Tryd.ntmps11
      go_wp2_with fail
      have L := L0.box w.heap.size (by simp) false A (zl x) c
      refine (HU2.out _ (L.getN (by simp))).mono ?_
      rintro e w1 ⟨rfl, be⟩
      replace L := L.step be
      clear be HU2
      have c00 := L.b0.c0
      have c01 := L.b0.c1
      have f00 := L.b0.fr 0
      have f01 := L.b0.fr 1
      go_wp2_with fail
      go_ret2
      exact retIB_of L.below (by rw [HI.out]) HB.out.symm
    · skip
      go_enter Tryd.func11, Tryd.ntmps11
      go_wp2_with fail
      have L := L0.box w.heap.size (by simp) true A (zl x) c
      refine (HU2.out _ (L.getN (by simp))).mono ?_
      rintro e w1 ⟨rfl, be⟩
      replace L := L.step be
      clear be HU2
      have c00 := L.b0.c0
      have c01 := L.b0.c1
      have f00 := L.b0.fr 0
      have f01 := L.b0.fr 1
      go_wp2_with fail
      go_ret2
      exact retIB_of L.below (by rw [HI.out]) HB.out.symm

set_option maxHeartbeats 1000000 in
theorem zsign_any (x : Int) (vx : Value) (w : World) (hx : IsZ w vx x) (lx : zl x ≤ 274877906944) :
    Calls Tryd.prog 22 #[vx] w (RetI w (cmpI x 0)) := by
  obtain ⟨A, c, rfl, ix⟩ := hx.form
  have hlx := abs_le lx
  have L0 := (((Lz.mk0 w).n ix).z hx)
  clear hx ix
  rcases Int.lt_trichotomy x 0 with h | h | h
  · have HC := Lib.hid (cmpI_lt h)
    rw [ng_yes h] at L0 ⊢
    have hbl := zl_pos (z := x) (by omega)
    have hbb := blen_pos (x := x.natAbs) (by omega)
    have HN := Lib.hid (fun W hh => nbits_any x.natAbs (.slice A (zl x) c) W hh (by omega))
    generalize blen x.natAbs = bl at *
    clear h
    go_enter Tryd.func22, Tryd.ntmps22
    go_wp2_with fail
    have L := (L0.box (w.heap.size) (by simp) true A (zl x) c)
    refine (HN.out _ (L.getN (by simp))).mono ?_
    rintro e w' ⟨rfl, rfl⟩
    have c00 := L.b0.c0
    have c01 := L.b0.c1
    have f00 := L.b0.fr 0
    have f01 := L.b0.fr 1
    go_wp2_with fail
    go_ret
    exact ⟨by rw [HC.out] <;> rfl, L.below⟩
  · subst h
    have HC := Lib.hid (cmpI_eq 0)
    rw [zl_zero, show ng 0 = false from rfl] at L0 ⊢
    have HN := Lib.hid (fun W hh => nbits_any (0 : Int).natAbs (.slice A 0 c) W hh (by omega))
    rw [show blen (0 : Int).natAbs = 0 from rfl] at HN
    go_enter Tryd.func22, Tryd.ntmps22
    go_wp2_with fail
    have L := (L0.box (w.heap.size) (by simp) false A 0 c)
    refine (HN.out _ (L.getN (by simp))).mono ?_
    rintro e w' ⟨rfl, rfl⟩
    have c00 := L.b0.c0
    have c01 := L.b0.c1
    have f00 := L.b0.fr 0
    have f01 := L.b0.fr 1
    go_wp2_with fail
    go_ret
    exact ⟨by rw [HC.out] <;> rfl, L.below⟩
  · have HC := Lib.hid (cmpI_gt h)
    rw [ng_no (by omega)] at L0 ⊢
    have hbl := zl_pos (z := x) (by omega)
    have hbb := blen_pos (x := x.natAbs) (by omega)
    have HN := Lib.hid (fun W hh => nbits_any x.natAbs (.slice A (zl x) c) W hh (by omega))
    generalize blen x.natAbs = bl at *
    clear h
    go_enter Tryd.func22, Tryd.ntmps22
    go_wp2_with fail
    have L := (L0.box (w.heap.size) (by simp) false A (zl x) c)
    refine (HN.out _ (L.getN (by simp))).mono ?_
    rintro e w' ⟨rfl, rfl⟩
    have c00 := L.b0.c0
    have c01 := L.b0.c1
    have f00 := L.b0.fr 0
    have f01 := L.b0.fr 1
    go_wp2_with fail
    go_ret
    exact ⟨by rw [HC.out] <;> rfl, L.below⟩

end Go.Proofs.YtajegednakenbaaDoor
