/- Walks: integer.signed, Nat, Sign, Neg, Add, Sub, Mul. -/
import Derived.Test.YtajegednakenbaaDoorIntA
import Derived.Test.YtajegednakenbaaDoorProdA
import Derived.Deep.RegionHeld3
import Derived.Deep.DrawnRows
namespace Go.Proofs.YtajegednakenbaaDoor
open Go.RowKit
set_option linter.unusedVariables false
set_option linter.unusedSimpArgs false
attribute [local go_sem ↓] Go.wp_at_zero Go.wp_at_succ

set_option maxHeartbeats 1000000 in
theorem signed_any (b : Bool) (x : Nat) (s : Value) (w : World) (hs : IsN w s x) (hl : len x ≤ 1099511627776) :
    Calls Tryd.prog 40 #[.bool b, s] w (RetZ w (sg b x)) := by
  obtain ⟨A, c, rfl⟩ := hs.form
  have H := Lib.hid hs
  rcases Nat.eq_zero_or_pos x with rfl | hx
  · have e : ∀ b, sg b 0 = 0 := fun b => by cases b <;> rfl
    rw [e]
    clear hs e
    rw [len_zero] at *
    go_enter Tryd.func40, Tryd.ntmps40
    cases b
    all_goals
      go_wp2_with fail
      refine bodyPost_ret (v := .agg #[.bool false, .slice A 0 c]) (by simp [results, Tryd.results40, go_sem]) rfl ?_
      have B := (Below.refl w.heap.size w).alloc (Nat.le_refl _) (.cells #[.bool false, .slice A 0 c] 24)
      exact retZ_of (z := 0) (H.out.mono B) B _ rfl rfl
  · have hp := len_pos hx
    have e1 : ng (sg true x) = true := by rw [sg_ng, decide_eq_true hx]; rfl
    have e2 : ng (sg false x) = false := by rw [sg_ng]; rfl
    have E1 := Lib.hid e1
    have E2 := Lib.hid e2
    clear hs e1 e2
    go_enter Tryd.func40, Tryd.ntmps40
    cases b
    · go_wp2_with fail
      refine bodyPost_ret (v := .agg #[.bool false, .slice A (len x) c]) (by simp [results, Tryd.results40, go_sem]) rfl ?_
      have B := (Below.refl w.heap.size w).alloc (Nat.le_refl _) (.cells #[.bool false, .slice A (len x) c] 24)
      exact retZ_of (by rw [sg_abs]; exact H.out.mono B) B _ E2.out.symm rfl
    · go_wp2_with fail
      refine bodyPost_ret (v := .agg #[.bool true, .slice A (len x) c]) (by simp [results, Tryd.results40, go_sem]) rfl ?_
      have B := (Below.refl w.heap.size w).alloc (Nat.le_refl _) (.cells #[.bool true, .slice A (len x) c] 24)
      exact retZ_of (by rw [sg_abs]; exact H.out.mono B) B _ E1.out.symm rfl

set_option maxHeartbeats 1000000 in
theorem znat_any (b : Bool) (l : List Nat) (A : Option Addr) (n c : Nat) (w : World) (h : Sl w A n c l) (hn : n ≤ 1099511627776) :
    Calls Tryd.prog 10 #[.bool b, .slice A n c] w (RetZ w (sg b (val l))) := by
  have hlv : len (val l) ≤ n := Nat.le_trans (len_val_le h.small) (by rw [h.len]; exact Nat.le_refl _)
  have HT := Lib.hid (fun W (hW : Below w.heap.size w W) => trim_any l A n c W (h.mono hW) (by omega))
  have HD := Lib.hid (dig_val h.small)
  go_enter Tryd.func10, Tryd.ntmps10
  go_wp2_with fail
  have L := (Lz.mk0 w).box w.heap.size rfl false none 0 0
  have hT := HT.out _ L.below
  rw [← HD.out] at hT
  have HT2 := Lib.hid hT
  clear hT HT
  refine HT2.out.mono ?_
  rintro e w1 ⟨v1, rfl, o⟩
  replace L := (L.step o.below).n o.isN
  clear o HT2
  have c0 := L.b0.c0
  have c1 := L.b0.c1
  have f0 := L.b0.fr 0
  have f1 := L.b0.fr 1
  have HS := Lib.hid (signed_any b (val l) v1 w1 L.hn (by omega))
  go_wp2_with fail
  refine HS.out.mono ?_
  rintro e w2 ⟨v2, rfl, iz, be⟩
  replace L := (L.step be).z iz
  obtain ⟨A2, c2, rfl, _⟩ := iz.form
  clear be c0 c1 f0 f1 HS iz
  have c0 := L.b0.c0
  have c1 := L.b0.c1
  have f0 := L.b0.fr 0
  have f1 := L.b0.fr 1
  go_wp2_with fail
  have LP := L.put (Nat.le_refl _) (by simp) (ng (sg b (val l))) A2 (zl (sg b (val l))) c2
  have d0 := LP.b0.c0
  have d1 := LP.b0.c1
  unfold put2 at d0 d1
  exact bodyPost_ret (v := .agg #[.bool (ng (sg b (val l))), .slice A2 (zl (sg b (val l))) c2]) (by simp [results, Tryd.results10, go_sem, d0, d1]) rfl ⟨_, rfl, LP.hz, LP.below⟩

end Go.Proofs.YtajegednakenbaaDoor
