/- Base texts, joined: RefIntA, RefIntB, RefIntC, MillInt. -/
import Derived.Test.YtejdmmnhnbmimaaDoorBaseI
import Derived.Test.YtejdmmnhnbmimaaDoorBaseR
import Derived.Deep.RegionHeld3
import Derived.Deep.DrawnRows
import Derived.Test.YtejdmmnhnbmimaaDoorBaseP
/- Walks: the reference's Valid, Nat, Of, Int, Sign, Same, Neg, Add. -/
namespace Go.Proofs.YtejdmmnhnbmimaaDoor
open Go.RowKit
set_option linter.unusedVariables false
set_option linter.unusedSimpArgs false
set_option maxRecDepth 8000
attribute [local go_sem ↓] Go.wp_at_zero Go.wp_at_succ

set_option maxHeartbeats 1000000 in
theorem rznat_any (b : Bool) (l : List Nat) (A : Option Addr) (n c : Nat) (w : World) (h : Sl w A n c l) (hn : n ≤ 1099511627776) :
    Calls Tryd.prog 31 #[.bool b, .slice A n c] w (RetZ w (sg b (val l))) := by
  have hlv : len (val l) ≤ n := Nat.le_trans (len_val_le h.small) (by rw [h.len]; exact Nat.le_refl _)
  have HT := Lib.hid (fun W (hW : Below w.heap.size w W) => rtrim_any l A n c W (h.mono hW) (by omega))
  have HD := Lib.hid (dig_val h.small)
  generalize val l = x at *
  clear h
  rcases Nat.eq_zero_or_pos x with rfl | hx
  · have e : ∀ b, sg b 0 = 0 := fun b => by cases b <;> rfl
    rw [e]
    clear e
    cases b
    · skip
      go_enter Tryd.func31, Tryd.ntmps31
      go_wp2_with fail
      have L := ((Lz.mk0 w).box (w.heap.size) (by simp) false none 0 0)
      have hT := HT.out _ L.below
      rw [← HD.out] at hT
      have HT2 := Lib.hid hT
      clear hT HT
      refine (HT2.out).mono ?_
      rintro e w1 ⟨v1, rfl, o⟩
      replace L := (L.step o.below).n o.isN
      clear o
      clear HT2
      obtain ⟨A1, c1, rfl⟩ := L.hn.form
      rw [len_zero] at *
      have c00 := L.b0.c0
      have c01 := L.b0.c1
      have f00 := L.b0.fr 0
      have f01 := L.b0.fr 1
      go_wp2_with fail
      have LP := L.put (by omega) (by simp) (false) (A1) (0) (c1)
      have d0 := LP.b0.c0
      have d1 := LP.b0.c1
      unfold put2 at d0 d1
      exact bodyPost_ret (v := .agg #[.bool (false), .slice (A1) (0) (c1)]) (by simp [results, Tryd.results31, go_sem, d0, d1]) rfl (retZ_of (z := 0) LP.hn LP.below _ rfl rfl)
    · skip
      go_enter Tryd.func31, Tryd.ntmps31
      go_wp2_with fail
      have L := ((Lz.mk0 w).box (w.heap.size) (by simp) false none 0 0)
      have hT := HT.out _ L.below
      rw [← HD.out] at hT
      have HT2 := Lib.hid hT
      clear hT HT
      refine (HT2.out).mono ?_
      rintro e w1 ⟨v1, rfl, o⟩
      replace L := (L.step o.below).n o.isN
      clear o
      clear HT2
      obtain ⟨A1, c1, rfl⟩ := L.hn.form
      rw [len_zero] at *
      have c00 := L.b0.c0
      have c01 := L.b0.c1
      have f00 := L.b0.fr 0
      have f01 := L.b0.fr 1
      go_wp2_with fail
      have LP := L.put (by omega) (by simp) (false) (A1) (0) (c1)
      have d0 := LP.b0.c0
      have d1 := LP.b0.c1
      unfold put2 at d0 d1
      exact bodyPost_ret (v := .agg #[.bool (false), .slice (A1) (0) (c1)]) (by simp [results, Tryd.results31, go_sem, d0, d1]) rfl (retZ_of (z := 0) LP.hn LP.below _ rfl rfl)
  · have hp := len_pos hx
    have e1 : ng (sg true x) = true := by rw [sg_ng, decide_eq_true hx]; rfl
    have e2 : ng (sg false x) = false := by rw [sg_ng]; rfl
    have E1 := Lib.hid e1
    have E2 := Lib.hid e2
    clear e1 e2
    cases b
    · skip
      go_enter Tryd.func31, Tryd.ntmps31
      go_wp2_with fail
      have L := ((Lz.mk0 w).box (w.heap.size) (by simp) false none 0 0)
      have hT := HT.out _ L.below
      rw [← HD.out] at hT
      have HT2 := Lib.hid hT
      clear hT HT
      refine (HT2.out).mono ?_
      rintro e w1 ⟨v1, rfl, o⟩
      replace L := (L.step o.below).n o.isN
      clear o
      clear HT2
      obtain ⟨A1, c1, rfl⟩ := L.hn.form
      have c00 := L.b0.c0
      have c01 := L.b0.c1
      have f00 := L.b0.fr 0
      have f01 := L.b0.fr 1
      go_wp2_with fail
      have LP := L.put (by omega) (by simp) (false) (A1) ((len x)) (c1)
      have d0 := LP.b0.c0
      have d1 := LP.b0.c1
      unfold put2 at d0 d1
      exact bodyPost_ret (v := .agg #[.bool (false), .slice (A1) ((len x)) (c1)]) (by simp [results, Tryd.results31, go_sem, d0, d1]) rfl (retZ_of (by rw [sg_abs]; exact LP.hn) LP.below _ E2.out.symm rfl)
    · skip
      go_enter Tryd.func31, Tryd.ntmps31
      go_wp2_with fail
      have L := ((Lz.mk0 w).box (w.heap.size) (by simp) false none 0 0)
      have hT := HT.out _ L.below
      rw [← HD.out] at hT
      have HT2 := Lib.hid hT
      clear hT HT
      refine (HT2.out).mono ?_
      rintro e w1 ⟨v1, rfl, o⟩
      replace L := (L.step o.below).n o.isN
      clear o
      clear HT2
      obtain ⟨A1, c1, rfl⟩ := L.hn.form
      have c00 := L.b0.c0
      have c01 := L.b0.c1
      have f00 := L.b0.fr 0
      have f01 := L.b0.fr 1
      go_wp2_with fail
      have LP := L.put (by omega) (by simp) (true) (A1) ((len x)) (c1)
      have d0 := LP.b0.c0
      have d1 := LP.b0.c1
      unfold put2 at d0 d1
      exact bodyPost_ret (v := .agg #[.bool (true), .slice (A1) ((len x)) (c1)]) (by simp [results, Tryd.results31, go_sem, d0, d1]) rfl (retZ_of (by rw [sg_abs]; exact LP.hn) LP.below _ E1.out.symm rfl)

theorem rznatN_any (b : Bool) (x : Nat) (s : Value) (w : World) (hs : IsN w s x) (hl : len x ≤ 1099511627776) :
    Calls Tryd.prog 31 #[.bool b, s] w (RetZ w (sg b x)) := by
  obtain ⟨A, n, c, rfl, hs⟩ := hs
  have := hs.len
  rw [length_dig] at this
  have := rznat_any b _ A n c w hs (by omega)
  rwa [val_dig] at this

set_option maxHeartbeats 1000000 in
theorem zsame_yes (x y : Int) (vx vy : Value) (w : World) (hx : IsZ w vx x) (hy : IsZ w vy y) (h : x = y) :
    Calls Tryd.prog 17 #[vx, vy] w (RetB w true) := by
  subst h
  obtain ⟨A, c, rfl, ix⟩ := hx.form
  obtain ⟨B, d, rfl, iy⟩ := hy.form
  have L0 := (((Lz.mk0 w).n iy).n ix)
  clear hx hy ix iy
  have HS := Lib.hid (fun W h1 h2 => same_yes x.natAbs x.natAbs (.slice A (zl x) c) (.slice B (zl x) d) W h1 h2 rfl)
  generalize ng x = b at *
  go_enter Tryd.func17, Tryd.ntmps17
  go_wp2_with fail
  have L := ((L0.box (w.heap.size) (by simp) b A (zl x) c).box (w.heap.size + 1) (by simp) b B (zl x) d)
  refine (HS.out _ (L.getN (by simp)) (L.getN (by simp))).mono ?_
  rintro e w' ⟨rfl, rfl⟩
  go_wp2_with fail
  go_ret
  exact ⟨rfl, L.below⟩

end Go.Proofs.YtejdmmnhnbmimaaDoor


/- Walks: the reference's Neg, Add, Sub, Mul, Cmp. -/
namespace Go.Proofs.YtejdmmnhnbmimaaDoor
open Go.RowKit
set_option linter.unusedVariables false
set_option linter.unusedSimpArgs false
set_option maxRecDepth 8000
attribute [local go_sem ↓] Go.wp_at_zero Go.wp_at_succ

end Go.Proofs.YtejdmmnhnbmimaaDoor


/- Walks: the reference's Shl, Shr. -/
namespace Go.Proofs.YtejdmmnhnbmimaaDoor
open Go.RowKit
set_option linter.unusedVariables false
set_option linter.unusedSimpArgs false
set_option maxRecDepth 8000
attribute [local go_sem ↓] Go.wp_at_zero Go.wp_at_succ

end Go.Proofs.YtejdmmnhnbmimaaDoor


/- Walks: the mill's Int; the laws' two. -/
namespace Go.Proofs.YtejdmmnhnbmimaaDoor
open Go.RowKit
set_option linter.unusedVariables false
set_option linter.unusedSimpArgs false
set_option maxRecDepth 8000
attribute [local go_sem ↓] Go.wp_at_zero Go.wp_at_succ

/-- A valid integer that is short enough, and whether it is. -/
def RetMillZ (w : World) (m : Nat) (e : Ending) (w' : World) : Prop := ∃ v b z, e = .returned (.tuple #[v, .bool b]) ∧ IsZ w' v z ∧ zl z ≤ m ∧ Below w.heap.size w w'
def RetTwo (w : World) (m : Nat) (e : Ending) (w' : World) : Prop := ∃ v1 v2 b x y, e = .returned (.tuple #[v1, v2, .bool b]) ∧ IsZ w' v1 x ∧ IsZ w' v2 y ∧ zl x ≤ m ∧ zl y ≤ m ∧ Below w.heap.size w w'
theorem Lz.pull3 {w0 w : World} {ns : List (Value × Nat)} {zs : List (Value × Int)} {bs : List (Nat × Bool × Value)} {p q r s : Nat × Bool × Value} (h : Lz w0 w ns zs (p :: q :: r :: s :: bs)) : Lz w0 w ns zs (s :: p :: q :: r :: bs) :=
  ⟨h.below, h.ns, h.zs, fun t ht => h.bs t (by simp only [List.mem_cons] at ht ⊢; rcases ht with h | h | h | h | h <;> simp [h])⟩
theorem isZ_zero (w : World) : IsZ w (.agg #[.bool false, .slice none 0 0]) 0 := ⟨_, rfl, IsN.zero w⟩

set_option maxHeartbeats 1000000 in
theorem millZ_any (b : Bool) (l : List Nat) (m : Nat) (A : Option Addr) (n c : Nat) (w : World) (h : Sl w A n c l) (hm : m ≤ 1000000) :
    Calls Tryd.prog 10 #[.agg #[.bool b, .slice A n c], .int .i64 (m : Int)] w (RetMillZ w m) := by
  have h63 := h.le63
  have hlv : len (val l) ≤ n := Nat.le_trans (len_val_le h.small) (by rw [h.len]; exact Nat.le_refl _)
  rcases Nat.lt_or_ge m n with hlt | hge
  · clear hlv h
    go_enter Tryd.func10, Tryd.ntmps10
    go_wp2_with fail
    have L := (((Lz.mk0 w).box (w.heap.size) (by simp) b A n c).box (w.heap.size + 1) (by simp) false none 0 0)
    exact bodyPost_ret (v := .tuple #[.agg #[.bool false, .slice none 0 0], .bool false]) (by simp [results, Tryd.results10, go_sem]) rfl ⟨_, _, _, rfl, isZ_zero _, by rw [zl_zero]; omega, L.below⟩
  · have HT := Lib.hid (fun W (hW : Below w.heap.size w W) => rznat_any b l A n c W (h.mono hW) (by omega))
    have hz : zl (sg b (val l)) ≤ len (val l) := Nat.le_of_eq (zl_sg b (val l))
    obtain ⟨z, hzz⟩ : ∃ z, sg b (val l) = z := ⟨_, rfl⟩
    rw [hzz] at HT hz
    clear hzz h
    go_enter Tryd.func10, Tryd.ntmps10
    go_wp2_with fail
    have L := (((Lz.mk0 w).box (w.heap.size) (by simp) b A n c).box (w.heap.size + 1) (by simp) false none 0 0)
    have c00 := L.b0.c0
    have c01 := L.b0.c1
    have f00 := L.b0.fr 0
    have f01 := L.b0.fr 1
    have c10 := L.tl.b0.c0
    have c11 := L.tl.b0.c1
    refine (HT.out _ L.below).mono ?_
    rintro e w1 ⟨v3, rfl, iz, be⟩
    clear c00 c01 f00 f01 c10 c11
    replace L := (L.step be).z iz
    obtain ⟨A3, c3, rfl, _⟩ := iz.form
    clear be iz HT
    have c00 := L.b0.c0
    have c01 := L.b0.c1
    have f00 := L.b0.fr 0
    have f01 := L.b0.fr 1
    have c10 := L.tl.b0.c0
    have c11 := L.tl.b0.c1
    go_wp2_with fail
    have LP := L.put (by omega) (by simp) (ng z) A3 (zl z) c3
    have d0 := LP.b0.c0
    have d1 := LP.b0.c1
    unfold put2 at d0 d1
    exact bodyPost_ret (v := .tuple #[.agg #[.bool (ng z), .slice A3 (zl z) c3], .bool true]) (by simp [results, Tryd.results10, go_sem, d0, d1]) rfl ⟨_, _, z, rfl, LP.hz, by omega, LP.below⟩

end Go.Proofs.YtejdmmnhnbmimaaDoor

