/- The reference's Sqrt. -/
import Derived.Test.YtbndgggjfjdfbaaGreatDoorRefRatC
import Derived.Deep.RegionHeld3
import Derived.Deep.DrawnRows
namespace Go.Proofs.YtbndgggjfjdfbaaGreatDoor
open Go.RowKit
set_option linter.unusedVariables false
set_option linter.unusedSimpArgs false
set_option maxRecDepth 100000
attribute [local go_sem ↓] Go.wp_at_zero Go.wp_at_succ

/-- A pair that is a result, and whether it is one. -/
def RetPB (w : World) (a : Int) (d : Nat) (b : Bool) (e : Ending) (w' : World) : Prop := ∃ v, e = .returned (.tuple #[v, .bool b]) ∧ IsP w' v a d ∧ Below w.heap.size w w'
/-- Whether a pair has a root. -/
def sqP (a : Int) (d : Nat) : Bool := !ng a && sqB a.natAbs && sqB d

set_option maxHeartbeats 4000000 in
theorem rsqrt7_any (a : Int) (d : Nat) (vx : Value) (w : World) (hx : IsP w vx a d) (la : zl a ≤ 10000) (ld : len d ≤ 10000) :
    Calls Tryz.prog 40 #[vx] w (RetPB w (if sqP a d then (sqQ a.natAbs : Int) else 0) (if sqP a d then sqQ d else 0) (sqP a d)) := by
  obtain ⟨A, c, B, g, rfl, _, hn, hd⟩ := hx.form
  have H1 := Lib.hid (fun W h => rsquareRoot_any a.natAbs (.slice A (zl a) c) W h la)
  have H2 := Lib.hid (fun W h => rsquareRoot_any d (.slice B (len d) g) W h ld)
  have L0 := ((Lq.mk0 w).n hd).n hn
  unfold sqP
  have lr : len (sqQ a.natAbs) ≤ 10000 := by
    refine Nat.le_trans (len_mono ?_) la
    unfold sqQ
    split
    · rename_i h; exact Nat.le_trans (Nat.le_mul_self _) (Nat.le_of_eq h)
    · exact Nat.zero_le _
  clear hx hd hn
  generalize sqQ a.natAbs = p at *
  generalize sqQ d = q at *
  generalize sqB a.natAbs = b1 at *
  generalize sqB d = b2 at *
  obtain ⟨s, hs⟩ : ∃ s, ng a = s := ⟨_, rfl⟩
  rw [hs]
  obtain ⟨o, ho⟩ : ∃ o, (!s && b1 && b2) = o := ⟨_, rfl⟩
  rw [ho]
  obtain ⟨P, hP⟩ : ∃ P : Int, (if o then (p : Int) else 0) = P := ⟨_, rfl⟩
  rw [hP]
  obtain ⟨Q, hQ⟩ : ∃ Q : Nat, (if o then q else 0) = Q := ⟨_, rfl⟩
  rw [hQ]
  have HO := Lib.hid ho
  have HP := Lib.hid hP
  have HQ := Lib.hid hQ
  clear ho hP hQ hs
  go_enter Tryz.func40, Tryz.ntmps40
  go_wp2_with fail
  have L := ((L0.varQ (w.heap.size) (by simp) s A B (zl a) c (len d) g).varQ (w.heap.size + 1) (by simp) false none none 0 0 0 0)
  have c00 := L.b0.c30
  have f00 := L.b0.fr 0
  have c01 := L.b0.c31
  have f01 := L.b0.fr 1
  have c02 := L.b0.c32
  have f02 := L.b0.fr 2
  have c10 := L.tl.b0.c30
  have c11 := L.tl.b0.c31
  have c12 := L.tl.b0.c32
  refine (H1.out _ (L.getN (by simp))).mono ?_
  rintro e w1 ⟨v1, rfl, o⟩
  clear c00 f00 c01 f01 c02 f02 c10 c11 c12
  replace L := (L.step o.below).n o.isN
  obtain ⟨A1, c1, rfl⟩ := o.isN.form
  clear o
  have c00 := L.b0.c30
  have f00 := L.b0.fr 0
  have c01 := L.b0.c31
  have f01 := L.b0.fr 1
  have c02 := L.b0.c32
  have f02 := L.b0.fr 2
  have c10 := L.tl.b0.c30
  have c11 := L.tl.b0.c31
  have c12 := L.tl.b0.c32
  go_wp2_with fail
  refine (H2.out _ (L.getN (by simp))).mono ?_
  rintro e w2 ⟨v2, rfl, o⟩
  clear c00 f00 c01 f01 c02 f02 c10 c11 c12
  replace L := (L.step o.below).n o.isN
  obtain ⟨A2, c2, rfl⟩ := o.isN.form
  clear o
  have c00 := L.b0.c30
  have f00 := L.b0.fr 0
  have c01 := L.b0.c31
  have f01 := L.b0.fr 1
  have c02 := L.b0.c32
  have f02 := L.b0.fr 2
  have c10 := L.tl.b0.c30
  have c11 := L.tl.b0.c31
  have c12 := L.tl.b0.c32
  have HS := Lib.hid (fun v W h => rznatN_any false p v W h (by omega))
  rw [show sg false p = (p : Int) from rfl] at HS
  cases s
  · cases b1
    · obtain rfl : o = false := HO.out.symm
      obtain rfl : P = 0 := HP.out.symm.trans (by simp)
      obtain rfl : Q = 0 := HQ.out.symm.trans (by simp)
      go_wp2_with fail
      have LP := L.putQ (by omega) (by simp) false none none 0 0 0 0
      have k0 := LP.b0.c30
      have k1 := LP.b0.c31
      have k2 := LP.b0.c32
      unfold put3 at k0 k1 k2
      exact bodyPost_ret (v := .tuple #[.agg #[.bool false, .slice none 0 0, .slice none 0 0], .bool false]) (by simp [results, Tryz.results40, go_sem, k0, k1, k2]) rfl ⟨_, rfl, isP_zero _, LP.below⟩
    · cases b2
      · obtain rfl : o = false := HO.out.symm
        obtain rfl : P = 0 := HP.out.symm.trans (by simp)
        obtain rfl : Q = 0 := HQ.out.symm.trans (by simp)
        go_wp2_with fail
        have LP := L.putQ (by omega) (by simp) false none none 0 0 0 0
        have k0 := LP.b0.c30
        have k1 := LP.b0.c31
        have k2 := LP.b0.c32
        unfold put3 at k0 k1 k2
        exact bodyPost_ret (v := .tuple #[.agg #[.bool false, .slice none 0 0, .slice none 0 0], .bool false]) (by simp [results, Tryz.results40, go_sem, k0, k1, k2]) rfl ⟨_, rfl, isP_zero _, LP.below⟩
      · obtain rfl : o = true := HO.out.symm
        obtain rfl : P = (p : Int) := HP.out.symm.trans (by simp)
        obtain rfl : Q = q := HQ.out.symm.trans (by simp)
        go_wp2_with fail
        refine (HS.out _ _ (L.getN (by simp))).mono ?_
        rintro e w3 ⟨v3, rfl, iz, be⟩
        clear c00 f00 c01 f01 c02 f02 c10 c11 c12
        replace L := (L.step be).z iz
        obtain ⟨A3, c3, rfl, _⟩ := iz.form
        clear be iz
        have c00 := L.b0.c30
        have f00 := L.b0.fr 0
        have c01 := L.b0.c31
        have f01 := L.b0.fr 1
        have c02 := L.b0.c32
        have f02 := L.b0.fr 2
        have c10 := L.tl.b0.c30
        have c11 := L.tl.b0.c31
        have c12 := L.tl.b0.c32
        go_wp2_with fail
        have LP := L.putQ (by omega) (by first | (simp; done) | (simp; omega)) (ng ((p : Int))) A3 A2 (zl ((p : Int))) c3 (len (Q)) c2
        have k0 := LP.b0.c30
        have k1 := LP.b0.c31
        have k2 := LP.b0.c32
        unfold put3 at k0 k1 k2
        exact bodyPost_ret (v := .tuple #[.agg #[.bool (ng ((p : Int))), .slice A3 (zl ((p : Int))) c3, .slice A2 (len (Q)) c2], .bool true]) (by simp [results, Tryz.results40, go_sem, k0, k1, k2]) rfl ⟨_, rfl, isP_of LP.hz (LP.getN (by simp)), LP.below⟩
  · obtain rfl : o = false := HO.out.symm
    obtain rfl : P = 0 := HP.out.symm.trans (by simp)
    obtain rfl : Q = 0 := HQ.out.symm.trans (by simp)
    go_wp2_with fail
    have LP := L.putQ (by omega) (by simp) false none none 0 0 0 0
    have k0 := LP.b0.c30
    have k1 := LP.b0.c31
    have k2 := LP.b0.c32
    unfold put3 at k0 k1 k2
    exact bodyPost_ret (v := .tuple #[.agg #[.bool false, .slice none 0 0, .slice none 0 0], .bool false]) (by simp [results, Tryz.results40, go_sem, k0, k1, k2]) rfl ⟨_, rfl, isP_zero _, LP.below⟩

end Go.Proofs.YtbndgggjfjdfbaaGreatDoor
