/- Walks: the mill's Int; the laws' two. -/
import Derived.Test.YtajegednakenbaaDoorRefIntA
import Derived.Test.YtajegednakenbaaDoorIntMath
import Derived.Deep.RegionHeld3
import Derived.Deep.DrawnRows
namespace Go.Proofs.YtajegednakenbaaDoor
open Go.RowKit
set_option linter.unusedVariables false
set_option linter.unusedSimpArgs false
attribute [local go_sem ↓] Go.wp_at_zero Go.wp_at_succ

/-- A valid integer that is short enough, and whether it is. -/
def RetMillZ (w : World) (m : Nat) (e : Ending) (w' : World) : Prop := ∃ v b z, e = .returned (.tuple #[v, .bool b]) ∧ IsZ w' v z ∧ zl z ≤ m ∧ Below w.heap.size w w'
def RetTwo (w : World) (m : Nat) (e : Ending) (w' : World) : Prop := ∃ v1 v2 b x y, e = .returned (.tuple #[v1, v2, .bool b]) ∧ IsZ w' v1 x ∧ IsZ w' v2 y ∧ zl x ≤ m ∧ zl y ≤ m ∧ Below w.heap.size w w'
theorem Lz.pull3 {w0 w : World} {ns : List (Value × Nat)} {zs : List (Value × Int)} {bs : List (Nat × Bool × Value)} {p q r s : Nat × Bool × Value} (h : Lz w0 w ns zs (p :: q :: r :: s :: bs)) : Lz w0 w ns zs (s :: p :: q :: r :: bs) :=
  ⟨h.below, h.ns, h.zs, fun t ht => h.bs t (by simp only [List.mem_cons] at ht ⊢; rcases ht with h | h | h | h | h <;> simp [h])⟩
theorem isZ_zero (w : World) : IsZ w (.agg #[.bool false, .slice none 0 0]) 0 := ⟨_, rfl, IsN.zero w⟩

set_option maxHeartbeats 1000000 in
theorem millZ_any (b : Bool) (l : List Nat) (m : Nat) (A : Option Addr) (n c : Nat) (w : World) (h : Sl w A n c l) (hm : m ≤ 1000000) :
    Calls Tryd.prog 26 #[.agg #[.bool b, .slice A n c], .int .i64 (m : Int)] w (RetMillZ w m) := by
  have h63 := h.le63
  have hlv : len (val l) ≤ n := Nat.le_trans (len_val_le h.small) (by rw [h.len]; exact Nat.le_refl _)
  rcases Nat.lt_or_ge m n with hlt | hge
  · clear hlv h
    go_enter Tryd.func26, Tryd.ntmps26
    go_wp2_with fail
    have L := (((Lz.mk0 w).box (w.heap.size) (by simp) b A n c).box (w.heap.size + 1) (by simp) false none 0 0)
    exact bodyPost_ret (v := .tuple #[.agg #[.bool false, .slice none 0 0], .bool false]) (by simp [results, Tryd.results26, go_sem]) rfl ⟨_, _, _, rfl, isZ_zero _, by rw [zl_zero]; omega, L.below⟩
  · have HT := Lib.hid (fun W (hW : Below w.heap.size w W) => rznat_any b l A n c W (h.mono hW) (by omega))
    have hz : zl (sg b (val l)) ≤ len (val l) := Nat.le_of_eq (zl_sg b (val l))
    obtain ⟨z, hzz⟩ : ∃ z, sg b (val l) = z := ⟨_, rfl⟩
    rw [hzz] at HT hz
    clear hzz h
    go_enter Tryd.func26, Tryd.ntmps26
    go_wp2_with fail
    have L := (((Lz.mk0 w).box (w.heap.size) (by simp) b A n c).box (w.heap.size + 1) (by simp) false none 0 0)
    have c00 := L.b0.c0
    have c01 := L.b0.c1
    have f00 := L.b0.fr 0
    have f01 := L.b0.fr 1
    have c10 := L.tl.b0.c0
    have c11 := L.tl.b0.c1
    refine (HT.out _ L.below).mono ?_
    rintro e w1 ⟨v3, rfl, iz, be⟩
    clear c00 c01 f00 f01 c10 c11
    replace L := (L.step be).z iz
    obtain ⟨A3, c3, rfl, _⟩ := iz.form
    clear be iz HT
    have c00 := L.b0.c0
    have c01 := L.b0.c1
    have f00 := L.b0.fr 0
    have f01 := L.b0.fr 1
    have c10 := L.tl.b0.c0
    have c11 := L.tl.b0.c1
    go_wp2_with fail
    have LP := L.put (by omega) (by simp) (ng z) A3 (zl z) c3
    have d0 := LP.b0.c0
    have d1 := LP.b0.c1
    unfold put2 at d0 d1
    exact bodyPost_ret (v := .tuple #[.agg #[.bool (ng z), .slice A3 (zl z) c3], .bool true]) (by simp [results, Tryd.results26, go_sem, d0, d1]) rfl ⟨_, _, z, rfl, LP.hz, by omega, LP.below⟩

set_option maxHeartbeats 2000000 in
theorem two_any (b1 b2 : Bool) (l1 l2 : List Nat) (m : Nat) (A B : Option Addr) (n c k d : Nat) (w : World) (h1 : Sl w A n c l1) (h2 : Sl w B k d l2) (hm : m ≤ 1000000) :
    Calls Tryd.prog 19 #[.agg #[.bool b1, .slice A n c], .agg #[.bool b2, .slice B k d], .int .i64 (m : Int)] w (RetTwo w m) := by
  have HA := Lib.hid (fun W (h : Below w.heap.size w W) => millZ_any b1 l1 m A n c W (h1.mono h) hm)
  have HB := Lib.hid (fun W (h : Below w.heap.size w W) => millZ_any b2 l2 m B k d W (h2.mono h) hm)
  clear h1 h2
  go_enter Tryd.func19, Tryd.ntmps19
  go_wp2_with fail
  have L := (((((Lz.mk0 w).box (w.heap.size) (by simp) b1 A n c).box (w.heap.size + 1) (by simp) b2 B k d).box (w.heap.size + 2) (by simp) false none 0 0).box (w.heap.size + 3) (by simp) false none 0 0)
  have c00 := L.b0.c0
  have c01 := L.b0.c1
  have c10 := L.tl.b0.c0
  have c11 := L.tl.b0.c1
  have c20 := L.tl.tl.b0.c0
  have c21 := L.tl.tl.b0.c1
  have c30 := L.tl.tl.tl.b0.c0
  have c31 := L.tl.tl.tl.b0.c1
  refine (HA.out _ L.below).mono ?_
  rintro e w1 ⟨v1, o1, x, rfl, iz, lx, be⟩
  clear c00 c01 c10 c11 c20 c21 c30 c31
  have hz1 := be.size
  replace L := (L.step be).z iz
  obtain ⟨A1, c1, rfl, _⟩ := iz.form
  clear be iz HA
  have hz2 : w.heap.size + 4 ≤ w1.heap.size := by simpa using hz1
  clear hz1
  have c00 := L.b0.c0
  have c01 := L.b0.c1
  have c10 := L.tl.b0.c0
  have c11 := L.tl.b0.c1
  have c20 := L.tl.tl.b0.c0
  have c21 := L.tl.tl.b0.c1
  have c30 := L.tl.tl.tl.b0.c0
  have c31 := L.tl.tl.tl.b0.c1
  have L2 := L.box w1.heap.size rfl (ng x) A1 (zl x) c1
  have cx00 := L2.b0.c0
  have cx01 := L2.b0.c1
  have cx10 := L2.tl.b0.c0
  have cx11 := L2.tl.b0.c1
  have cx20 := L2.tl.tl.b0.c0
  have cx21 := L2.tl.tl.b0.c1
  have cx30 := L2.tl.tl.tl.b0.c0
  have cx31 := L2.tl.tl.tl.b0.c1
  have cx40 := L2.tl.tl.tl.tl.b0.c0
  have cx41 := L2.tl.tl.tl.tl.b0.c1
  go_wp2_with fail
  replace L := L2
  clear L2
  refine (HB.out _ L.below).mono ?_
  rintro e w2 ⟨v2, o2, y, rfl, iz, ly, be⟩
  clear c00 c01 c10 c11 c20 c21 c30 c31 cx00 cx01 cx10 cx11 cx20 cx21 cx30 cx31 cx40 cx41
  have hz1 := be.size
  replace L := (L.step be).z iz
  obtain ⟨A2, c2, rfl, _⟩ := iz.form
  clear be iz HB
  have hz3 : w1.heap.size + 1 ≤ w2.heap.size := by simpa using hz1
  clear hz1
  have c00 := L.b0.c0
  have c01 := L.b0.c1
  have c10 := L.tl.b0.c0
  have c11 := L.tl.b0.c1
  have c20 := L.tl.tl.b0.c0
  have c21 := L.tl.tl.b0.c1
  have c30 := L.tl.tl.tl.b0.c0
  have c31 := L.tl.tl.tl.b0.c1
  have c40 := L.tl.tl.tl.tl.b0.c0
  have c41 := L.tl.tl.tl.tl.b0.c1
  cases o1
  · cases o2
    · have L2 := L.box w2.heap.size rfl (ng y) A2 (zl y) c2
      have cx00 := L2.b0.c0
      have cx01 := L2.b0.c1
      have cx10 := L2.tl.b0.c0
      have cx11 := L2.tl.b0.c1
      have cx20 := L2.tl.tl.b0.c0
      have cx21 := L2.tl.tl.b0.c1
      have cx30 := L2.tl.tl.tl.b0.c0
      have cx31 := L2.tl.tl.tl.b0.c1
      have cx40 := L2.tl.tl.tl.tl.b0.c0
      have cx41 := L2.tl.tl.tl.tl.b0.c1
      have cx50 := L2.tl.tl.tl.tl.tl.b0.c0
      have cx51 := L2.tl.tl.tl.tl.tl.b0.c1
      go_wp2_with fail
      clear c00 c01 c10 c11 c20 c21 c30 c31 c40 c41 cx00 cx01 cx10 cx11 cx20 cx21 cx30 cx31 cx40 cx41 cx50 cx51
      generalize (w2.alloc (.cells #[.bool (ng y), .slice A2 (zl y) c2] 24)) = w3 at *
      have cx00 := L2.b0.c0
      have cx01 := L2.b0.c1
      have cx10 := L2.tl.b0.c0
      have cx11 := L2.tl.b0.c1
      have cx20 := L2.tl.tl.b0.c0
      have cx21 := L2.tl.tl.b0.c1
      have fx20 := L2.tl.tl.b0.fr 0
      have fx21 := L2.tl.tl.b0.fr 1
      have cx30 := L2.tl.tl.tl.b0.c0
      have cx31 := L2.tl.tl.tl.b0.c1
      have fx30 := L2.tl.tl.tl.b0.fr 0
      have fx31 := L2.tl.tl.tl.b0.fr 1
      have cx40 := L2.tl.tl.tl.tl.b0.c0
      have cx41 := L2.tl.tl.tl.tl.b0.c1
      have cx50 := L2.tl.tl.tl.tl.tl.b0.c0
      have cx51 := L2.tl.tl.tl.tl.tl.b0.c1
      replace L := L2
      clear L2
      have L1 := L.pull3.put (by omega) (by simp; omega) (ng x) A1 (zl x) c1
      have L2 := L1.pull3.put (by omega) (by simp; omega) (ng y) A2 (zl y) c2
      unfold put2 at L2
      unfold put2 at L1
      go_region
      have k0 := L2.b0.c0
      have k1 := L2.b0.c1
      have k2 := L2.tl.b0.c0
      have k3 := L2.tl.b0.c1
      go_wp2_with fail
      replace L2 := L2.drew
      exact bodyPost_ret (v := .tuple #[.agg #[.bool (ng x), .slice A1 (zl x) c1], .agg #[.bool (ng y), .slice A2 (zl y) c2], .bool false]) (by simp [results, Tryd.results19, go_sem, k0, k1, k2, k3]) rfl ⟨_, _, _, x, y, rfl, L2.getZ (by simp), L2.getZ (by simp), lx, ly, L2.below⟩
    · have L2 := L.box w2.heap.size rfl (ng y) A2 (zl y) c2
      have cx00 := L2.b0.c0
      have cx01 := L2.b0.c1
      have cx10 := L2.tl.b0.c0
      have cx11 := L2.tl.b0.c1
      have cx20 := L2.tl.tl.b0.c0
      have cx21 := L2.tl.tl.b0.c1
      have cx30 := L2.tl.tl.tl.b0.c0
      have cx31 := L2.tl.tl.tl.b0.c1
      have cx40 := L2.tl.tl.tl.tl.b0.c0
      have cx41 := L2.tl.tl.tl.tl.b0.c1
      have cx50 := L2.tl.tl.tl.tl.tl.b0.c0
      have cx51 := L2.tl.tl.tl.tl.tl.b0.c1
      go_wp2_with fail
      clear c00 c01 c10 c11 c20 c21 c30 c31 c40 c41 cx00 cx01 cx10 cx11 cx20 cx21 cx30 cx31 cx40 cx41 cx50 cx51
      generalize (w2.alloc (.cells #[.bool (ng y), .slice A2 (zl y) c2] 24)) = w3 at *
      have cx00 := L2.b0.c0
      have cx01 := L2.b0.c1
      have cx10 := L2.tl.b0.c0
      have cx11 := L2.tl.b0.c1
      have cx20 := L2.tl.tl.b0.c0
      have cx21 := L2.tl.tl.b0.c1
      have fx20 := L2.tl.tl.b0.fr 0
      have fx21 := L2.tl.tl.b0.fr 1
      have cx30 := L2.tl.tl.tl.b0.c0
      have cx31 := L2.tl.tl.tl.b0.c1
      have fx30 := L2.tl.tl.tl.b0.fr 0
      have fx31 := L2.tl.tl.tl.b0.fr 1
      have cx40 := L2.tl.tl.tl.tl.b0.c0
      have cx41 := L2.tl.tl.tl.tl.b0.c1
      have cx50 := L2.tl.tl.tl.tl.tl.b0.c0
      have cx51 := L2.tl.tl.tl.tl.tl.b0.c1
      replace L := L2
      clear L2
      have L1 := L.pull3.put (by omega) (by simp; omega) (ng x) A1 (zl x) c1
      have L2 := L1.pull3.put (by omega) (by simp; omega) (ng y) A2 (zl y) c2
      unfold put2 at L2
      unfold put2 at L1
      go_region
      have k0 := L2.b0.c0
      have k1 := L2.b0.c1
      have k2 := L2.tl.b0.c0
      have k3 := L2.tl.b0.c1
      go_wp2_with fail
      replace L2 := L2.drew
      exact bodyPost_ret (v := .tuple #[.agg #[.bool (ng x), .slice A1 (zl x) c1], .agg #[.bool (ng y), .slice A2 (zl y) c2], .bool false]) (by simp [results, Tryd.results19, go_sem, k0, k1, k2, k3]) rfl ⟨_, _, _, x, y, rfl, L2.getZ (by simp), L2.getZ (by simp), lx, ly, L2.below⟩
  · cases o2
    · have L2 := L.box w2.heap.size rfl (ng y) A2 (zl y) c2
      have cx00 := L2.b0.c0
      have cx01 := L2.b0.c1
      have cx10 := L2.tl.b0.c0
      have cx11 := L2.tl.b0.c1
      have cx20 := L2.tl.tl.b0.c0
      have cx21 := L2.tl.tl.b0.c1
      have cx30 := L2.tl.tl.tl.b0.c0
      have cx31 := L2.tl.tl.tl.b0.c1
      have cx40 := L2.tl.tl.tl.tl.b0.c0
      have cx41 := L2.tl.tl.tl.tl.b0.c1
      have cx50 := L2.tl.tl.tl.tl.tl.b0.c0
      have cx51 := L2.tl.tl.tl.tl.tl.b0.c1
      go_wp2_with fail
      clear c00 c01 c10 c11 c20 c21 c30 c31 c40 c41 cx00 cx01 cx10 cx11 cx20 cx21 cx30 cx31 cx40 cx41 cx50 cx51
      generalize (w2.alloc (.cells #[.bool (ng y), .slice A2 (zl y) c2] 24)) = w3 at *
      have cx00 := L2.b0.c0
      have cx01 := L2.b0.c1
      have cx10 := L2.tl.b0.c0
      have cx11 := L2.tl.b0.c1
      have cx20 := L2.tl.tl.b0.c0
      have cx21 := L2.tl.tl.b0.c1
      have fx20 := L2.tl.tl.b0.fr 0
      have fx21 := L2.tl.tl.b0.fr 1
      have cx30 := L2.tl.tl.tl.b0.c0
      have cx31 := L2.tl.tl.tl.b0.c1
      have fx30 := L2.tl.tl.tl.b0.fr 0
      have fx31 := L2.tl.tl.tl.b0.fr 1
      have cx40 := L2.tl.tl.tl.tl.b0.c0
      have cx41 := L2.tl.tl.tl.tl.b0.c1
      have cx50 := L2.tl.tl.tl.tl.tl.b0.c0
      have cx51 := L2.tl.tl.tl.tl.tl.b0.c1
      replace L := L2
      clear L2
      have L1 := L.pull3.put (by omega) (by simp; omega) (ng x) A1 (zl x) c1
      have L2 := L1.pull3.put (by omega) (by simp; omega) (ng y) A2 (zl y) c2
      unfold put2 at L2
      unfold put2 at L1
      go_region
      have k0 := L2.b0.c0
      have k1 := L2.b0.c1
      have k2 := L2.tl.b0.c0
      have k3 := L2.tl.b0.c1
      go_wp2_with fail
      replace L2 := L2.drew
      exact bodyPost_ret (v := .tuple #[.agg #[.bool (ng x), .slice A1 (zl x) c1], .agg #[.bool (ng y), .slice A2 (zl y) c2], .bool false]) (by simp [results, Tryd.results19, go_sem, k0, k1, k2, k3]) rfl ⟨_, _, _, x, y, rfl, L2.getZ (by simp), L2.getZ (by simp), lx, ly, L2.below⟩
    · have L2 := L.box w2.heap.size rfl (ng y) A2 (zl y) c2
      have cx00 := L2.b0.c0
      have cx01 := L2.b0.c1
      have cx10 := L2.tl.b0.c0
      have cx11 := L2.tl.b0.c1
      have cx20 := L2.tl.tl.b0.c0
      have cx21 := L2.tl.tl.b0.c1
      have cx30 := L2.tl.tl.tl.b0.c0
      have cx31 := L2.tl.tl.tl.b0.c1
      have cx40 := L2.tl.tl.tl.tl.b0.c0
      have cx41 := L2.tl.tl.tl.tl.b0.c1
      have cx50 := L2.tl.tl.tl.tl.tl.b0.c0
      have cx51 := L2.tl.tl.tl.tl.tl.b0.c1
      go_wp2_with fail
      clear c00 c01 c10 c11 c20 c21 c30 c31 c40 c41 cx00 cx01 cx10 cx11 cx20 cx21 cx30 cx31 cx40 cx41 cx50 cx51
      generalize (w2.alloc (.cells #[.bool (ng y), .slice A2 (zl y) c2] 24)) = w3 at *
      have cx00 := L2.b0.c0
      have cx01 := L2.b0.c1
      have cx10 := L2.tl.b0.c0
      have cx11 := L2.tl.b0.c1
      have cx20 := L2.tl.tl.b0.c0
      have cx21 := L2.tl.tl.b0.c1
      have fx20 := L2.tl.tl.b0.fr 0
      have fx21 := L2.tl.tl.b0.fr 1
      have cx30 := L2.tl.tl.tl.b0.c0
      have cx31 := L2.tl.tl.tl.b0.c1
      have fx30 := L2.tl.tl.tl.b0.fr 0
      have fx31 := L2.tl.tl.tl.b0.fr 1
      have cx40 := L2.tl.tl.tl.tl.b0.c0
      have cx41 := L2.tl.tl.tl.tl.b0.c1
      have cx50 := L2.tl.tl.tl.tl.tl.b0.c0
      have cx51 := L2.tl.tl.tl.tl.tl.b0.c1
      replace L := L2
      clear L2
      have L1 := L.pull3.put (by omega) (by simp; omega) (ng x) A1 (zl x) c1
      have L2 := L1.pull3.put (by omega) (by simp; omega) (ng y) A2 (zl y) c2
      unfold put2 at L2
      unfold put2 at L1
      go_region
      have k0 := L2.b0.c0
      have k1 := L2.b0.c1
      have k2 := L2.tl.b0.c0
      have k3 := L2.tl.b0.c1
      go_wp2_with fail
      replace L2 := L2.drew
      exact bodyPost_ret (v := .tuple #[.agg #[.bool (ng x), .slice A1 (zl x) c1], .agg #[.bool (ng y), .slice A2 (zl y) c2], .bool true]) (by simp [results, Tryd.results19, go_sem, k0, k1, k2, k3]) rfl ⟨_, _, _, x, y, rfl, L2.getZ (by simp), L2.getZ (by simp), lx, ly, L2.below⟩

end Go.Proofs.YtajegednakenbaaDoor
