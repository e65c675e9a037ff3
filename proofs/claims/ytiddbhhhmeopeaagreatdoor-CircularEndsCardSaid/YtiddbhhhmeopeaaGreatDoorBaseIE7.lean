/- Base texts, joined: IntA, IntB, IntMath, IntC, IntD, IntE, IntF, IntWays. -/
import Derived.Test.YtiddbhhhmeopeaaGreatDoorBaseRE7
import Derived.Test.YtiddbhhhmeopeaaGreatDoorBaseNE7
import Derived.Deep.RegionHeld3
import Derived.Deep.DrawnRows
import Derived.Test.YtiddbhhhmeopeaaGreatDoorBasePE7
/- Words for integers: a struct of a sign and a natural; variables that hold such a struct; what is known at a point of a walk. -/
namespace Go.Proofs.YtiddbhhhmeopeaaGreatDoor
set_option maxHeartbeats 64000000
open Go.RowKit
set_option linter.unusedVariables false
set_option linter.unusedSimpArgs false
set_option maxRecDepth 100000
def ng (z : Int) : Bool:=decide (z < 0)
def zl (z : Int) : Nat:=len z.natAbs
theorem ng_nat (n : Nat) : ng (n : Int) = false:=decide_eq_false (by omega)
theorem ng_yes {z : Int} (h : z < 0) : ng z = true:=decide_eq_true h
theorem ng_no {z : Int} (h : 0 ≤ z) : ng z = false:=decide_eq_false (by omega)
theorem zl_zero : zl 0 = 0:=len_zero
theorem zl_neg (z : Int) : zl (-z) = zl z:=by unfold zl; rw [Int.natAbs_neg]
theorem zl_pos {z : Int} (h : z ≠ 0) : 0 < zl z:=len_pos (by omega)
theorem zl_eq_zero {z : Int} (h : zl z = 0) : z = 0:=by
 have:=len_eq_zero h
 omega
theorem zl_add (x y : Int) : zl (x + y) ≤ max (zl x) (zl y) + 1:=by
 have h1 : (x + y).natAbs ≤ x.natAbs + y.natAbs:=Int.natAbs_add_le x y
 exact Nat.le_trans (len_mono h1) (len_add _ _)
theorem zl_sub (x y : Int) : zl (x - y) ≤ max (zl x) (zl y) + 1:=by
 rw [Int.sub_eq_add_neg]
 have:=zl_add x (-y)
 rwa [zl_neg] at this
theorem zl_mul (x y : Int) : zl (x * y) ≤ zl x + zl y:=by
 unfold zl
 rw [Int.natAbs_mul]
 exact len_mul _ _
def IsZ (w : World) (v : Value) (z : Int) : Prop:=∃ s, v = .agg #[.bool (ng z), s] ∧ IsN w s z.natAbs
theorem IsZ.mono {w w' : World} {v : Value} {z : Int} (h : IsZ w v z) (hb : Below w.heap.size w w') : IsZ w' v z:=by
 obtain ⟨s, e, hs⟩:=h
 exact ⟨s, e, hs.mono hb⟩
theorem IsN.form {w : World} {v : Value} {x : Nat} (h : IsN w v x) : ∃ A c, v = .slice A (len x) c:=by
 obtain ⟨A, n, c, e, hs⟩:=h
 have:=hs.len
 rw [length_dig] at this
 subst this
 exact ⟨A, c, e⟩
theorem IsZ.form {w : World} {v : Value} {z : Int} (h : IsZ w v z) : ∃ A c, v = .agg #[.bool (ng z), .slice A (zl z) c] ∧ IsN w (.slice A (zl z) c) z.natAbs:=by
 obtain ⟨s, e, hs⟩:=h
 obtain ⟨A, c, e2⟩:=hs.form
 subst e2
 exact ⟨A, c, e, hs⟩
def sg (b : Bool) (x : Nat) : Int:=if b then -(x : Int) else (x : Int)
theorem sg_abs (b : Bool) (x : Nat) : (sg b x).natAbs = x:=by unfold sg; cases b <;> simp
theorem sg_ng (b : Bool) (x : Nat) : ng (sg b x) = (b && decide (0 < x)):=by
 unfold sg ng
 cases b
 ·simp
 ·simp
theorem sg_self (z : Int) : sg (ng z) z.natAbs = z:=by
 unfold sg ng
 by_cases h : z < 0
 ·rw [decide_eq_true h, if_pos rfl]; omega
 ·rw [decide_eq_false h, if_neg (by simp)]; omega
theorem zl_sg (b : Bool) (x : Nat) : zl (sg b x) = len x:=by unfold zl; rw [sg_abs]
def Box (w : World) (g : Nat) (b : Bool) (s : Value) : Prop:=w.heap[g]? = some (.cells #[.bool b, s] 24 (0, 0)) ∧ ∃ A n c, s = .slice A n c
theorem Box.lt {w : World} {g : Nat} {b : Bool} {s : Value} (h : Box w g b s) : g < w.heap.size:=by
 rcases Nat.lt_or_ge g w.heap.size with h1 | h1
 ·exact h1
 ·have:=h.1; rw [Array.getElem?_eq_none h1] at this; cases this
theorem Box.mono {w w' : World} {g : Nat} {b : Bool} {s : Value} (h : Box w g b s) (hb : Below w.heap.size w w') : Box w' g b s:=
 ⟨by rw [hb.block g h.lt]; exact h.1, h.2⟩
theorem Box.mk (w : World) (b : Bool) (A : Option Addr) (n c : Nat) : Box (w.alloc (.cells #[.bool b, .slice A n c] 24)) w.heap.size b (.slice A n c):=
 ⟨heap_alloc_new w _, A, n, c, rfl⟩
theorem Box.c0 {w : World} {g : Nat} {b : Bool} {s : Value} (h : Box w g b s) : w.cell? ⟨g, 0, none⟩ = some (.bool b):=by
 rw [cell_of_row w g 0 _ _ _ h.1]; rfl
theorem Box.c1 {w : World} {g : Nat} {b : Bool} {s : Value} (h : Box w g b s) : w.cell? ⟨g, 1, none⟩ = some s:=by
 rw [cell_of_row w g 1 _ _ _ h.1]; rfl
theorem Box.fr {w : World} {g : Nat} {b : Bool} {s : Value} (h : Box w g b s) (j : Nat) : w.frozen? ⟨g, j, none⟩ = false:=by
 have:=h.1
 simp [World.frozen?, this]
theorem Box.isN {w : World} {g : Nat} {b : Bool} {s : Value} (hB : Box w g b s) (j : Nat) (u : Value) {v : Value} {x : Nat} (h : IsN w v x) : IsN (w.setCell ⟨g, j, none⟩ u) v x:=by
 obtain ⟨A, n, c, e, hs⟩:=h
 refine ⟨A, n, c, e, ⟨hs.len, hs.cap, hs.most, hs.small, fun hn => ?_⟩⟩
 obtain ⟨k, off, h1, h2, h3⟩:=hs.place hn
 have hne : k ≠ g:=by
  rintro rfl
  have h4:=h3 0 hn
  rw [cell_of_row w k _ _ _ _ hB.1, Nat.add_zero] at h4
  obtain ⟨A', n', c', hsv⟩:=hB.2
  subst hsv
  match off, h4 with
  | 0, h4 => simp at h4
  | 1, h4 => simp at h4
  | off + 2, h4 => simp at h4
 have hh:=heap_setCell_other w ⟨g, j, none⟩ k u hne
 refine ⟨k, off, h1, ?_, fun i hi => ?_⟩
 ·rcases Nat.lt_or_ge k (w.setCell ⟨g, j, none⟩ u).heap.size with h5 | h5
  ·exact h5
  ·rw [Array.getElem?_eq_none h5, Array.getElem?_eq_getElem h2] at hh; cases hh
 ·rw [World.cell?_of_block (w:=w) (a:=⟨k, off + i, none⟩) hh]
  exact h3 i hi
def put2 (w : World) (g : Nat) (b : Bool) (s : Value) : World:=(w.setCell ⟨g, 0, none⟩ (.bool b)).setCell ⟨g, 1, none⟩ s
theorem Box.put {w : World} {g : Nat} {b b' : Bool} {s : Value} (hB : Box w g b s) (A : Option Addr) (n c : Nat) : Box (put2 w g b' (.slice A n c)) g b' (.slice A n c):=by
 refine ⟨?_, A, n, c, rfl⟩
 unfold put2
 rw [heap_setCell_same _ g 1 #[.bool b', s] _ _ (by rw [heap_setCell_same w g 0 _ _ _ hB.1]; rfl)]
 rfl
theorem Box.half {w : World} {g : Nat} {b b' : Bool} {s : Value} (hB : Box w g b s) : Box (w.setCell ⟨g, 0, none⟩ (.bool b')) g b' s:=
 ⟨by rw [heap_setCell_same w g 0 _ _ _ hB.1]; rfl, hB.2⟩
theorem Box.putN {w : World} {g : Nat} {b b' : Bool} {s s' : Value} (hB : Box w g b s) {v : Value} {x : Nat} (h : IsN w v x) : IsN (put2 w g b' s') v x:=
 (hB.half (b':=b')).isN 1 s' (hB.isN 0 (.bool b') h)
theorem Box.putZ {w : World} {g : Nat} {b b' : Bool} {s s' : Value} (hB : Box w g b s) {v : Value} {z : Int} (h : IsZ w v z) : IsZ (put2 w g b' s') v z:=by
 obtain ⟨t, e, ht⟩:=h
 exact ⟨t, e, hB.putN ht⟩
theorem Box.put_other {w : World} {g k : Nat} {b b' c' : Bool} {s s' t : Value} (hB : Box w g b s) (h : Box w k c' t) (hne : k ≠ g) : Box (put2 w g b' s') k c' t:=by
 refine ⟨?_, h.2⟩
 unfold put2
 rw [heap_setCell_other _ ⟨g, 1, none⟩ k _ hne, heap_setCell_other _ ⟨g, 0, none⟩ k _ hne]
 exact h.1
theorem below_put {w0 w : World} (h : Below w0.heap.size w0 w) {g : Nat} (hg : w0.heap.size ≤ g) (b : Bool) (s : Value) : Below w0.heap.size w0 (put2 w g b s):=
 (h.setCell (p:=⟨g, 0, none⟩) hg _).setCell (p:=⟨g, 1, none⟩) hg _
structure Lz (w0 w : World) (ns : List (Value × Nat)) (zs : List (Value × Int)) (bs : List (Nat × Bool × Value)) : Prop where
 below : Below w0.heap.size w0 w
 ns : ∀ p ∈ ns, IsN w p.1 p.2
 zs : ∀ p ∈ zs, IsZ w p.1 p.2
 bs : ∀ p ∈ bs, Box w p.1 p.2.1 p.2.2
section
variable {w0 w : World} {ns : List (Value × Nat)} {zs : List (Value × Int)} {bs : List (Nat × Bool × Value)}
theorem Lz.mk0 (w : World) : Lz w w [] [] []:=⟨Below.refl _ _, fun _ h => (by cases h), fun _ h => (by cases h), fun _ h => (by cases h)⟩
theorem Lz.step {w' : World} (h : Lz w0 w ns zs bs) (hb : Below w.heap.size w w') : Lz w0 w' ns zs bs:=
 ⟨h.below.trans (hb.mono h.below.size), fun p hp => (h.ns p hp).mono hb, fun p hp => (h.zs p hp).mono hb, fun p hp => (h.bs p hp).mono hb⟩
theorem Lz.n (h : Lz w0 w ns zs bs) {v : Value} {x : Nat} (hv : IsN w v x) : Lz w0 w ((v, x) :: ns) zs bs:=
 ⟨h.below, fun p hp => by
  rcases List.mem_cons.1 hp with rfl | hp
  ·exact hv
  ·exact h.ns p hp, h.zs, h.bs⟩
theorem Lz.z (h : Lz w0 w ns zs bs) {v : Value} {x : Int} (hv : IsZ w v x) : Lz w0 w ns ((v, x) :: zs) bs:=
 ⟨h.below, h.ns, fun p hp => by
  rcases List.mem_cons.1 hp with rfl | hp
  ·exact hv
  ·exact h.zs p hp, h.bs⟩
theorem Lz.b (h : Lz w0 w ns zs bs) {g : Nat} {b : Bool} {s : Value} (hv : Box w g b s) : Lz w0 w ns zs ((g, b, s) :: bs):=
 ⟨h.below, h.ns, h.zs, fun p hp => by
  rcases List.mem_cons.1 hp with rfl | hp
  ·exact hv
  ·exact h.bs p hp⟩
theorem Lz.box (h : Lz w0 w ns zs bs) (g : Nat) (hg : g = w.heap.size) (b : Bool) (A : Option Addr) (n c : Nat) : Lz w0 (w.alloc (.cells #[.bool b, .slice A n c] 24)) ns zs ((g, b, .slice A n c) :: bs):=by
 subst hg
 exact (h.step ((Below.refl w.heap.size w).alloc (Nat.le_refl _) _)).b (Box.mk w b A n c)
theorem Lz.getN (h : Lz w0 w ns zs bs) {v : Value} {x : Nat} (hp : (v, x) ∈ ns) : IsN w v x:=h.ns (v, x) hp
theorem Lz.getZ (h : Lz w0 w ns zs bs) {v : Value} {x : Int} (hp : (v, x) ∈ zs) : IsZ w v x:=h.zs (v, x) hp
theorem Lz.b0 {g : Nat} {b : Bool} {s : Value} (h : Lz w0 w ns zs ((g, b, s) :: bs)) : Box w g b s:=h.bs (g, b, s) (List.mem_cons_self ..)
theorem Lz.tl {p : Nat × Bool × Value} (h : Lz w0 w ns zs (p :: bs)) : Lz w0 w ns zs bs:=⟨h.below, h.ns, h.zs, fun p hp => h.bs p (List.mem_cons_of_mem _ hp)⟩
theorem Lz.hz {v : Value} {x : Int} (h : Lz w0 w ns ((v, x) :: zs) bs) : IsZ w v x:=h.zs (v, x) (List.mem_cons_self ..)
theorem Lz.hn {v : Value} {x : Nat} (h : Lz w0 w ((v, x) :: ns) zs bs) : IsN w v x:=h.ns (v, x) (List.mem_cons_self ..)
theorem Lz.put {g : Nat} {b : Bool} {s : Value} (h : Lz w0 w ns zs ((g, b, s) :: bs)) (hg : w0.heap.size ≤ g) (hd : ∀ p ∈ bs, p.1 ≠ g) (b' : Bool) (A : Option Addr) (n c : Nat) : Lz w0 (put2 w g b' (.slice A n c)) ns zs ((g, b', .slice A n c) :: bs):=
 ⟨below_put h.below hg _ _, fun p hp => h.b0.putN (h.ns p hp), fun p hp => h.b0.putZ (h.zs p hp), fun p hp => by
  rcases List.mem_cons.1 hp with rfl | hp
  ·exact h.b0.put A n c
  ·exact h.b0.put_other (h.bs p (List.mem_cons_of_mem _ hp)) (hd p hp)⟩
end
def RetZ (w : World) (z : Int) (e : Ending) (w' : World) : Prop:=∃ v, e = .returned v ∧ IsZ w' v z ∧ Below w.heap.size w w'
def RetB (w : World) (b : Bool) (e : Ending) (w' : World) : Prop:=e = .returned (.bool b) ∧ Below w.heap.size w w'
theorem retZ_of {w w' : World} {z z' : Int} {s : Value} (hs : IsN w' s z.natAbs) (hb : Below w.heap.size w w') (b : Bool) (e : b = ng z) (e2 : z = z') : RetZ w z' (.returned (.agg #[.bool b, s])) w':=by
 subst e; subst e2
 exact ⟨_, rfl, ⟨s, rfl, hs⟩, hb⟩

end Go.Proofs.YtiddbhhhmeopeaaGreatDoor


/- Walks: integer.signed, Nat, Sign, Neg, Add, Sub, Mul. -/
namespace Go.Proofs.YtiddbhhhmeopeaaGreatDoor
set_option maxHeartbeats 64000000
open Go.RowKit
set_option linter.unusedVariables false
set_option linter.unusedSimpArgs false
set_option maxRecDepth 100000
attribute [local go_sem ↓] Go.wp_at_zero Go.wp_at_succ

theorem signed_any (b : Bool) (x : Nat) (s : Value) (w : World) (hs : IsN w s x) (hl : len x ≤ 1099511627776) :
  Calls Tryz.prog 208 #[.bool b, s] w (RetZ w (sg b x)):=by
 obtain ⟨A, c, rfl⟩:=hs.form
 have H:=Hd9 hs
 rcases Nat.eq_zero_or_pos x with rfl | hx
 ·have e : ∀ b, sg b 0 = 0:=fun b => by cases b <;> rfl
  rw [e]
  clear hs e
  rw [len_zero] at *
  go_enter Tryz.func208, Tryz.ntmps208
  cases b
  all_goals
   go_wp2_with fail
   refine bodyPost_ret (v:=.agg #[.bool false, .slice A 0 c]) (by simp [results, Tryz.results208, go_sem]) rfl ?_
   have B:=(Below.refl w.heap.size w).alloc (Nat.le_refl _) (.cells #[.bool false, .slice A 0 c] 24)
   exact retZ_of (z:=0) (H.out.mono B) B _ rfl rfl
 ·have hp:=len_pos hx
  have e1 : ng (sg true x) = true:=by rw [sg_ng, decide_eq_true hx]; rfl
  have e2 : ng (sg false x) = false:=by rw [sg_ng]; rfl
  have E1:=Hd9 e1
  have E2:=Hd9 e2
  clear hs e1 e2
  go_enter Tryz.func208, Tryz.ntmps208
  cases b
  ·go_wp2_with fail
   refine bodyPost_ret (v:=.agg #[.bool false, .slice A (len x) c]) (by simp [results, Tryz.results208, go_sem]) rfl ?_
   have B:=(Below.refl w.heap.size w).alloc (Nat.le_refl _) (.cells #[.bool false, .slice A (len x) c] 24)
   exact retZ_of (by rw [sg_abs]; exact H.out.mono B) B _ E2.out.symm rfl
  ·go_wp2_with fail
   refine bodyPost_ret (v:=.agg #[.bool true, .slice A (len x) c]) (by simp [results, Tryz.results208, go_sem]) rfl ?_
   have B:=(Below.refl w.heap.size w).alloc (Nat.le_refl _) (.cells #[.bool true, .slice A (len x) c] 24)
   exact retZ_of (by rw [sg_abs]; exact H.out.mono B) B _ E1.out.symm rfl

theorem znat_any (b : Bool) (l : List Nat) (A : Option Addr) (n c : Nat) (w : World) (h : Sl w A n c l) (hn : n ≤ 1099511627776) :
  Calls Tryz.prog 221 #[.bool b, .slice A n c] w (RetZ w (sg b (val l))):=by
 have hlv : len (val l) ≤ n:=Nat.le_trans (len_val_le h.small) (by rw [h.len]; exact Nat.le_refl _)
 have HT:=Hd9 (fun W (hW : Below w.heap.size w W) => trim_any l A n c W (h.mono hW) (by omega))
 have HD:=Hd9 (dig_val h.small)
 go_enter Tryz.func221, Tryz.ntmps221
 go_wp2_with fail
 have L:=(Lz.mk0 w).box w.heap.size rfl false none 0 0
 have hT:=HT.out _ L.below
 rw [← HD.out] at hT
 have HT2:=Hd9 hT
 clear hT HT
 refine HT2.out.mono ?_
 rintro e w1 ⟨v1, rfl, o⟩
 replace L:=(L.step o.below).n o.isN
 clear o HT2
 have c0:=L.b0.c0
 have c1:=L.b0.c1
 have f0:=L.b0.fr 0
 have f1:=L.b0.fr 1
 have HS:=Hd9 (signed_any b (val l) v1 w1 L.hn (by omega))
 go_wp2_with fail
 refine HS.out.mono ?_
 rintro e w2 ⟨v2, rfl, iz, be⟩
 replace L:=(L.step be).z iz
 obtain ⟨A2, c2, rfl, _⟩:=iz.form
 clear be c0 c1 f0 f1 HS iz
 have c0:=L.b0.c0
 have c1:=L.b0.c1
 have f0:=L.b0.fr 0
 have f1:=L.b0.fr 1
 go_wp2_with fail
 have LP:=L.put (Nat.le_refl _) (by simp) (ng (sg b (val l))) A2 (zl (sg b (val l))) c2
 have d0:=LP.b0.c0
 have d1:=LP.b0.c1
 unfold put2 at d0 d1
 exact bodyPost_ret (v:=.agg #[.bool (ng (sg b (val l))), .slice A2 (zl (sg b (val l))) c2]) (by simp [results, Tryz.results221, go_sem, d0, d1]) rfl ⟨_, rfl, LP.hz, LP.below⟩

end Go.Proofs.YtiddbhhhmeopeaaGreatDoor


/- Mathematics of integers: a sign and an absolute value; floors. -/
namespace Go.Proofs.YtiddbhhhmeopeaaGreatDoor
set_option maxHeartbeats 64000000
open Go.RowKit
set_option linter.unusedVariables false
set_option linter.unusedSimpArgs false
set_option maxRecDepth 100000

theorem add_same {x y : Int} (h : ng x = ng y) : sg (ng x) (x.natAbs + y.natAbs) = x + y:=by
 unfold sg ng at *
 by_cases h1 : x < 0 <;> by_cases h2 : y < 0 <;> simp [h1, h2] at h ⊢ <;> omega
theorem add_diff {x y : Int} (h : ng x ≠ ng y) (hl : y.natAbs ≤ x.natAbs) : sg (ng x) (x.natAbs - y.natAbs) = x + y:=by
 unfold sg ng at *
 by_cases h1 : x < 0 <;> by_cases h2 : y < 0 <;> simp [h1, h2] at h ⊢ <;> omega
theorem neg_sg (x : Int) : sg (!ng x) x.natAbs = -x:=by
 unfold sg ng
 by_cases h1 : x < 0 <;> simp [h1] <;> omega
theorem sg_eq (b : Bool) (n : Nat) : sg b n = (if b then -1 else 1) * (n : Int):=by
 unfold sg
 cases b <;> simp
theorem sg_parts (z : Int) : z = (if ng z then -1 else 1) * (z.natAbs : Int):=by rw [← sg_eq, sg_self]
theorem mul_sg (x y : Int) : sg (ng x != ng y) (x.natAbs * y.natAbs) = x * y:=by
 rw [← Int.natAbs_mul]
 have h:=sg_self (x * y)
 by_cases hz : x * y = 0
 ·rw [hz]; cases (ng x != ng y) <;> rfl
 ·have hx : x ≠ 0:=fun e => hz (by rw [e, Int.zero_mul])
  have hy : y ≠ 0:=fun e => hz (by rw [e, Int.mul_zero])
  have e : ng (x * y) = (ng x != ng y):=by
   unfold ng
   rcases Int.lt_or_gt_of_ne hx with h1 | h1 <;> rcases Int.lt_or_gt_of_ne hy with h2 | h2
   ·have:=Int.mul_pos_of_neg_of_neg h1 h2
    simp [h1, h2]; omega
   ·have:=Int.mul_neg_of_neg_of_pos h1 h2
    have h3 : ¬ y < 0:=by omega
    simp [h1, h3, this]
   ·have:=Int.mul_neg_of_pos_of_neg h1 h2
    have h3 : ¬ x < 0:=by omega
    simp [h2, h3, this]
   ·have:=Int.mul_pos h1 h2
    have h3 : ¬ x < 0:=by omega
    have h4 : ¬ y < 0:=by omega
    simp [h3, h4]; omega
  rw [← e]; exact h
theorem cmp_sub (x y : Int) : cmpI (x - y) 0 = cmpI x y:=by
 unfold cmpI
 split <;> split <;> (try split) <;> (try split) <;> omega
theorem cmp_diff {x y : Int} (h : cmpI x 0 ≠ cmpI y 0) : cmpI (cmpI x 0) (cmpI y 0) = cmpI x y:=by
 rcases Int.lt_trichotomy x 0 with h1 | h1 | h1 <;> rcases Int.lt_trichotomy y 0 with h2 | h2 | h2 <;> unfold cmpI at * <;> simp_all <;> omega
theorem sign_neg {x y : Int} (hs : cmpI x 0 = cmpI y 0) (h : x < 0) : y < 0:=by
 unfold cmpI at hs
 split at hs <;> split at hs <;> (try split at hs) <;> (try split at hs) <;> omega
theorem sign_zero {x y : Int} (hs : cmpI x 0 = cmpI y 0) (h : x = 0) : y = 0:=by
 unfold cmpI at hs
 split at hs <;> split at hs <;> (try split at hs) <;> (try split at hs) <;> omega
theorem sign_pos {x y : Int} (hs : cmpI x 0 = cmpI y 0) (h : 0 < x) : 0 < y:=by
 unfold cmpI at hs
 split at hs <;> split at hs <;> (try split at hs) <;> (try split at hs) <;> omega
theorem cmp_same_neg {x y : Int} (h1 : x < 0) (h2 : y < 0) : cmpI x y = -cmpI (x.natAbs : Int) (y.natAbs : Int):=by
 unfold cmpI
 split <;> split <;> (try split) <;> (try split) <;> omega
theorem cmp_same_pos {x y : Int} (h1 : 0 < x) (h2 : 0 < y) : cmpI x y = cmpI (x.natAbs : Int) (y.natAbs : Int):=by
 unfold cmpI
 split <;> split <;> (try split) <;> (try split) <;> omega
theorem floor_unique {x y q r : Int} (h : q * y + r = x) (hr : 0 < y → 0 ≤ r ∧ r < y) (hr2 : y < 0 → y < r ∧ r ≤ 0) (hy : y ≠ 0) : x.fdiv y = q ∧ x.fmod y = r:=by
 have key : x.fdiv y = q:=by
  rcases Int.lt_or_gt_of_ne hy with h1 | h1
  ·obtain ⟨h2, h3⟩:=hr2 h1
   rw [← Int.neg_fdiv_neg, Int.fdiv_eq_ediv_of_nonneg _ (by omega)]
   have e : -x = -r + (-y) * q:=by rw [← h, Int.neg_mul, Int.mul_comm y q]; omega
   rw [e, Int.add_mul_ediv_left _ _ (by omega), Int.ediv_eq_zero_of_lt (by omega) (by omega)]; omega
  ·obtain ⟨h2, h3⟩:=hr h1
   rw [Int.fdiv_eq_ediv_of_nonneg _ (by omega)]
   have e : x = r + y * q:=by rw [← h, Int.mul_comm y q]; omega
   rw [e, Int.add_mul_ediv_left _ _ (by omega), Int.ediv_eq_zero_of_lt h2 h3]; omega
 refine ⟨key, ?_⟩
 have:=Int.fmod_add_mul_fdiv x y
 rw [key, Int.mul_comm] at this
 omega
theorem floor_pos {x y : Int} (h : 0 < y) : x.fdiv y = x / y:=Int.fdiv_eq_ediv_of_nonneg _ (by omega)
theorem floor_same {x y : Int} (hy : y ≠ 0) (h : ng x = ng y) : x.fdiv y = ((x.natAbs / y.natAbs : Nat) : Int) ∧ x.fmod y = sg (ng y) (x.natAbs % y.natAbs):=by
 have hm:=Nat.mod_lt x.natAbs (show 0 < y.natAbs by omega)
 have hd:=Nat.div_add_mod x.natAbs y.natAbs
 have hd' : (y.natAbs : Int) * ((x.natAbs / y.natAbs : Nat) : Int) + ((x.natAbs % y.natAbs : Nat) : Int) = (x.natAbs : Int):=by exact_mod_cast hd
 generalize x.natAbs / y.natAbs = q at *
 generalize x.natAbs % y.natAbs = r at *
 unfold sg ng at *
 by_cases h2 : y < 0
 ·have h1 : x < 0:=by simpa [h2] using h
  have e : (y.natAbs : Int) = -y:=by omega
  rw [e] at hd'
  rw [decide_eq_true h2, if_pos rfl]
  refine floor_unique ?_ (fun _ => by omega) (fun _ => by omega) hy
  have : -y * (q : Int) = -((q : Int) * y):=by rw [Int.neg_mul, Int.mul_comm]
  omega
 ·have h1 : ¬ x < 0:=by simpa [h2] using h
  have e : (y.natAbs : Int) = y:=by omega
  rw [e, Int.mul_comm] at hd'
  rw [decide_eq_false h2, if_neg (by simp)]
  exact floor_unique (by omega) (fun _ => by omega) (fun _ => by omega) hy
theorem floor_exact {x y : Int} (hy : y ≠ 0) (h : ng x ≠ ng y) (hr : x.natAbs % y.natAbs = 0) : x.fdiv y = sg true (x.natAbs / y.natAbs) ∧ x.fmod y = 0:=by
 have hd:=Nat.div_add_mod x.natAbs y.natAbs
 rw [hr] at hd
 have hd' : (y.natAbs : Int) * ((x.natAbs / y.natAbs : Nat) : Int) = (x.natAbs : Int):=by exact_mod_cast hd
 generalize x.natAbs / y.natAbs = q at *
 unfold sg ng at *
 rw [if_pos rfl]
 by_cases h2 : y < 0
 ·have h1 : ¬ x < 0:=by simpa [h2] using h
  have e : (y.natAbs : Int) = -y:=by omega
  rw [e] at hd'
  refine floor_unique ?_ (fun _ => by omega) (fun _ => by omega) hy
  have : -y * (q : Int) = -((q : Int) * y):=by rw [Int.neg_mul, Int.mul_comm]
  have : -(q : Int) * y = -((q : Int) * y):=Int.neg_mul _ _
  omega
 ·have h1 : x < 0:=by simpa [h2] using h
  have e : (y.natAbs : Int) = y:=by omega
  rw [e, Int.mul_comm] at hd'
  refine floor_unique ?_ (fun _ => by omega) (fun _ => by omega) hy
  have : -(q : Int) * y = -((q : Int) * y):=Int.neg_mul _ _
  omega
theorem floor_down {x y : Int} (hy : y ≠ 0) (h : ng x ≠ ng y) (hr : 0 < x.natAbs % y.natAbs) : x.fdiv y = sg true (x.natAbs / y.natAbs + 1) ∧ x.fmod y = sg (ng y) (y.natAbs - x.natAbs % y.natAbs):=by
 have hm:=Nat.mod_lt x.natAbs (show 0 < y.natAbs by omega)
 have hd:=Nat.div_add_mod x.natAbs y.natAbs
 have hd' : (y.natAbs : Int) * ((x.natAbs / y.natAbs : Nat) : Int) + ((x.natAbs % y.natAbs : Nat) : Int) = (x.natAbs : Int):=by exact_mod_cast hd
 generalize x.natAbs / y.natAbs = q at *
 generalize x.natAbs % y.natAbs = r at *
 unfold sg ng at *
 rw [if_pos rfl]
 have e3 : -((q + 1 : Nat) : Int) * y = -((q : Int) * y) - y:=by
  rw [Int.neg_mul, Int.natCast_add, Int.add_mul]; simp; omega
 by_cases h2 : y < 0
 ·have h1 : ¬ x < 0:=by simpa [h2] using h
  have e : (y.natAbs : Int) = -y:=by omega
  rw [e] at hd'
  rw [decide_eq_true h2, if_pos rfl]
  refine floor_unique ?_ (fun _ => by omega) (fun _ => by omega) hy
  have : -y * (q : Int) = -((q : Int) * y):=by rw [Int.neg_mul, Int.mul_comm]
  omega
 ·have h1 : x < 0:=by simpa [h2] using h
  have e : (y.natAbs : Int) = y:=by omega
  rw [e, Int.mul_comm] at hd'
  rw [decide_eq_false h2, if_neg (by simp)]
  refine floor_unique ?_ (fun _ => by omega) (fun _ => by omega) hy
  omega
theorem shl_sg (x : Int) (k : Nat) : sg (ng x) (x.natAbs * 2 ^ k) = x * 2 ^ k:=by
 rw [sg_eq, Int.natCast_mul, ← Int.mul_assoc, ← sg_parts, Int.natCast_pow]
 rfl
theorem shr_zero_or {x : Nat} (k : Nat) (hx : 0 < x) : tz x < k ↔ 0 < x % 2 ^ k:=by
 constructor
 ·intro h
  rcases Nat.eq_zero_or_pos (x % 2 ^ k) with h0 | h0
  ·exfalso
   have hd : 2 ^ k ∣ x:=Nat.dvd_of_mod_eq_zero h0
   have h1:=bitB_tz hx
   unfold bitB at h1
   have h2 : x / 2 ^ tz x % 2 = 1:=of_decide_eq_true h1
   clear h1
   generalize tz x = t at *
   obtain ⟨c, hc⟩:=hd
   have e : 2 ^ k = 2 ^ t * (2 * 2 ^ (k - t - 1)):=by
    rw [← Nat.pow_succ', ← Nat.pow_add]; congr 1; omega
   rw [hc, e, Nat.mul_assoc, Nat.mul_div_cancel_left _ (Nat.pow_pos (by omega)), Nat.mul_assoc, Nat.mul_mod_right] at h2
   omega
  ·exact h0
 ·intro h
  rcases Nat.lt_or_ge (tz x) k with h1 | h1
  ·exact h1
  ·exfalso
   obtain ⟨m, hm⟩:=tz_form hx
   generalize tz x = t at *
   have e : 2 ^ t = 2 ^ k * 2 ^ (t - k):=by rw [← Nat.pow_add]; congr 1; omega
   rw [hm, e, Nat.mul_assoc, Nat.mul_mod_right] at h
   omega
theorem shr_floor {x : Int} (k : Nat) : x / 2 ^ k = if ng x && decide (0 < x.natAbs % 2 ^ k) then sg (ng x) (x.natAbs / 2 ^ k + 1) else sg (ng x) (x.natAbs / 2 ^ k):=by
 have hp : (0 : Int) < 2 ^ k:=by exact_mod_cast Nat.pow_pos (n:=k) (show 0 < 2 by omega)
 have ea : ((2 : Int) ^ k).natAbs = 2 ^ k:=by
  have : ((2 : Int) ^ k) = ((2 ^ k : Nat) : Int):=by rw [Int.natCast_pow]; rfl
  rw [this, Int.natAbs_natCast]
 have hnp : ng ((2 : Int) ^ k) = false:=ng_no (by omega)
 rw [← floor_pos hp]
 by_cases h : x < 0
 ·have hx : ng x = true:=ng_yes h
  have hne : ng x ≠ ng ((2 : Int) ^ k):=by rw [hx, hnp]; simp
  rw [hx]
  rcases Nat.eq_zero_or_pos (x.natAbs % 2 ^ k) with hz | hz
  ·rw [(floor_exact (by omega) hne (by rw [ea]; exact hz)).1, ea, hz]; rfl
  ·rw [(floor_down (by omega) hne (by rw [ea]; exact hz)).1, ea, decide_eq_true hz]; rfl
 ·have hx : ng x = false:=ng_no (by omega)
  rw [(floor_same (by omega) (by rw [hx, hnp])).1, ea, hx]; rfl

theorem abs_le {z : Int} {k : Nat} (h : zl z ≤ k) : len z.natAbs ≤ k:=h
theorem Lz.drew {w0 w : World} {ns : List (Value × Nat)} {zs : List (Value × Int)} {bs : List (Nat × Bool × Value)} (h : Lz w0 w ns zs bs) : Lz w0 w.drew ns zs bs:=h.step ((Below.refl _ _).drew)
theorem Lz.swap {w0 w : World} {ns : List (Value × Nat)} {zs : List (Value × Int)} {bs : List (Nat × Bool × Value)} {p q : Nat × Bool × Value} (h : Lz w0 w ns zs (p :: q :: bs)) : Lz w0 w ns zs (q :: p :: bs):=
 ⟨h.below, h.ns, h.zs, fun r hr => h.bs r (by simp only [List.mem_cons] at hr ⊢; rcases hr with h | h | h <;> simp [h])⟩

end Go.Proofs.YtiddbhhhmeopeaaGreatDoor


/- Walks: integer.Neg, Add, Sub, Mul. -/
namespace Go.Proofs.YtiddbhhhmeopeaaGreatDoor
set_option maxHeartbeats 64000000
open Go.RowKit
set_option linter.unusedVariables false
set_option linter.unusedSimpArgs false
set_option maxRecDepth 100000
attribute [local go_sem ↓] Go.wp_at_zero Go.wp_at_succ

theorem znatN_any (b : Bool) (x : Nat) (s : Value) (w : World) (hs : IsN w s x) (hl : len x ≤ 1099511627776) :
  Calls Tryz.prog 221 #[.bool b, s] w (RetZ w (sg b x)):=by
 obtain ⟨A, n, c, rfl, hs⟩:=hs
 have:=hs.len
 rw [length_dig] at this
 have:=znat_any b _ A n c w hs (by omega)
 rwa [val_dig] at this

theorem zneg_any (x : Int) (vx : Value) (w : World) (hx : IsZ w vx x) (lx : zl x ≤ 274877906944) :
  Calls Tryz.prog 169 #[vx] w (RetZ w (-x)):=by
 obtain ⟨A, c, rfl, ix⟩:=hx.form
 have hlx:=abs_le lx
 have L0:=(((Lz.mk0 w).n ix).z hx)
 clear hx ix
 have HA:=Hd9 (neg_sg x)
 generalize ng x = b at *
 go_enter Tryz.func169, Tryz.ntmps169
 go_wp2_with fail
 have L:=((L0.box (w.heap.size) (by simp) b A (zl x) c).box (w.heap.size + 1) (by simp) false none 0 0)
 refine (znatN_any (!b) x.natAbs _ _ (L.getN (by simp)) (by omega)).mono ?_
 rintro e w1 ⟨v1, rfl, iz, be⟩
 replace L:=(L.step be).z iz
 obtain ⟨A3, c3, rfl, _⟩:=iz.form
 clear be iz
 have c00:=L.b0.c0
 have c01:=L.b0.c1
 have f00:=L.b0.fr 0
 have f01:=L.b0.fr 1
 have c10:=L.tl.b0.c0
 have c11:=L.tl.b0.c1
 go_wp2_with fail
 have LP:=L.put (by omega) (by simp) (ng (sg (!b) x.natAbs)) (A3) (zl (sg (!b) x.natAbs)) (c3)
 have d0:=LP.b0.c0
 have d1:=LP.b0.c1
 unfold put2 at d0 d1
 exact bodyPost_ret (v:=.agg #[.bool (ng (sg (!b) x.natAbs)), .slice (A3) (zl (sg (!b) x.natAbs)) (c3)]) (by simp [results, Tryz.results169, go_sem, d0, d1]) rfl ⟨_, rfl, HA.out ▸ LP.hz, LP.below⟩

theorem zadd_any (x y : Int) (vx vy : Value) (w : World) (hx : IsZ w vx x) (hy : IsZ w vy y) (lx : zl x ≤ 274877906944) (ly : zl y ≤ 274877906944) :
  Calls Tryz.prog 154 #[vx, vy] w (RetZ w (x + y)):=by
 obtain ⟨A, c, rfl, ix⟩:=hx.form
 obtain ⟨B, d, rfl, iy⟩:=hy.form
 have hlx:=abs_le lx
 have hly:=abs_le ly
 have L0:=(((((Lz.mk0 w).n iy).n ix).z hy).z hx)
 clear hx hy ix iy
 by_cases hs : ng x = ng y
 ·have HA:=Hd9 (add_same hs)
  have hls:=len_add x.natAbs y.natAbs
  rw [← hs] at L0 ⊢
  clear hs
  generalize ng x = b at *
  go_enter Tryz.func154, Tryz.ntmps154
  go_wp2_with fail
  have L:=(((L0.box (w.heap.size) (by simp) b A (zl x) c).box (w.heap.size + 1) (by simp) b B (zl y) d).box (w.heap.size + 2) (by simp) false none 0 0)
  replace L:=L.drew
  have c00:=L.b0.c0
  have c01:=L.b0.c1
  have f00:=L.b0.fr 0
  have f01:=L.b0.fr 1
  have c10:=L.tl.b0.c0
  have c11:=L.tl.b0.c1
  have c20:=L.tl.tl.b0.c0
  have c21:=L.tl.tl.b0.c1
  go_region_held3 (fun w' => w'.cell? ⟨w.heap.size, 0, none⟩ = some (.bool b) ∧ w'.cell? ⟨w.heap.size, 1, none⟩ = some (.slice A (zl x) c) ∧ w'.cell? ⟨w.heap.size + 1, 1, none⟩ = some (.slice B (zl y) d)) (first | (with_reducible exact ⟨L.tl.tl.b0.c0, L.tl.tl.b0.c1, L.tl.b0.c1⟩) | exact ⟨L.tl.tl.b0.c0, L.tl.tl.b0.c1, L.tl.b0.c1⟩ | (have LP:=L.put (by omega) (by simp) (ng (sg b (x.natAbs + y.natAbs))) (A3) (zl (sg b (x.natAbs + y.natAbs))) (c3); exact ⟨LP.tl.tl.b0.c0, LP.tl.tl.b0.c1, LP.tl.b0.c1⟩)) (first | (go_at_call 210; refine (add_any x.natAbs y.natAbs _ _ _ (L.getN (by simp)) (L.getN (by simp)) (by omega) (by omega)).mono ?_; rintro e w2 ⟨v2, rfl, o⟩; replace L:=(L.step o.below).n o.isN; clear o) | (go_at_call 208; refine (signed_any b _ _ _ L.hn (by omega)).mono ?_; rintro e w3 ⟨v3, rfl, iz, be⟩; replace L:=(L.step be).z iz; obtain ⟨A3, c3, rfl, _⟩:=iz.form; clear be iz; have d30:=L.b0.c0; have d31:=L.b0.c1; have g30:=L.b0.fr 0; have g31:=L.b0.fr 1))
  clear c00 c01 f00 f01 c10 c11 c20 c21
  go_wp2_with fail
  have LP:=L.put (by omega) (by simp) (ng (sg b (x.natAbs + y.natAbs))) (A3) (zl (sg b (x.natAbs + y.natAbs))) (c3)
  have d0:=LP.b0.c0
  have d1:=LP.b0.c1
  unfold put2 at d0 d1
  exact bodyPost_ret (v:=.agg #[.bool (ng (sg b (x.natAbs + y.natAbs))), .slice (A3) (zl (sg b (x.natAbs + y.natAbs))) (c3)]) (by simp [results, Tryz.results154, go_sem, d0, d1]) rfl ⟨_, rfl, HA.out ▸ LP.hz, LP.below⟩
 ·have hbb : (ng x == ng y) = false:=by rw [beq_eq_false_iff_ne]; exact hs
  rcases Nat.lt_or_ge x.natAbs y.natAbs with hlt | hge
  ·have HA:=add_diff (Ne.symm hs) (Nat.le_of_lt hlt)
   rw [Int.add_comm y x] at HA
   replace HA:=Hd9 HA
   have HB:=fun W h1 h2 => sub_any x.natAbs y.natAbs (.slice A (zl x) c) (.slice B (zl y) d) W h1 h2 (by omega)
   have HC:=fun W h1 h2 => sub_any y.natAbs x.natAbs (.slice B (zl y) d) (.slice A (zl x) c) W h1 h2 (by omega)
   unfold RetSub at HB HC
   simp only [if_neg (Nat.not_le.2 hlt), decide_eq_false (Nat.not_le.2 hlt), if_pos (Nat.le_of_lt hlt), decide_eq_true (Nat.le_of_lt hlt)] at HB HC
   have hls:=len_sub y.natAbs x.natAbs
   have HB2:=Hd9 HB
   have HC2:=Hd9 HC
   clear HB HC hs
   generalize ng x = b at *
   generalize ng y = b2 at *
   go_enter Tryz.func154, Tryz.ntmps154
   go_wp2_with fail
   have L:=(((L0.box (w.heap.size) (by simp) b A (zl x) c).box (w.heap.size + 1) (by simp) b2 B (zl y) d).box (w.heap.size + 2) (by simp) false none 0 0)
   have c00:=L.b0.c0
   have c01:=L.b0.c1
   have f00:=L.b0.fr 0
   have f01:=L.b0.fr 1
   have c10:=L.tl.b0.c0
   have c11:=L.tl.b0.c1
   have c20:=L.tl.tl.b0.c0
   have c21:=L.tl.tl.b0.c1
   refine (HB2.out _ (L.getN (by simp)) (L.getN (by simp))).mono ?_
   rintro e w1 ⟨v1, rfl, o⟩
   clear c00 c01 f00 f01 c10 c11 c20 c21
   replace L:=(L.step o.below).n o.isN
   clear o
   have c00:=L.b0.c0
   have c01:=L.b0.c1
   have f00:=L.b0.fr 0
   have f01:=L.b0.fr 1
   have c10:=L.tl.b0.c0
   have c11:=L.tl.b0.c1
   have c20:=L.tl.tl.b0.c0
   have c21:=L.tl.tl.b0.c1
   go_wp2_with fail
   refine (HC2.out _ (L.getN (by simp)) (L.getN (by simp))).mono ?_
   rintro e w2 ⟨v2, rfl, o⟩
   clear c00 c01 f00 f01 c10 c11 c20 c21
   replace L:=(L.step o.below).n o.isN
   clear o
   have c00:=L.b0.c0
   have c01:=L.b0.c1
   have f00:=L.b0.fr 0
   have f01:=L.b0.fr 1
   have c10:=L.tl.b0.c0
   have c11:=L.tl.b0.c1
   have c20:=L.tl.tl.b0.c0
   have c21:=L.tl.tl.b0.c1
   go_wp2_with fail
   refine (signed_any b2 (y.natAbs - x.natAbs) _ _ L.hn (by omega)).mono ?_
   rintro e w3 ⟨v3, rfl, iz, be⟩
   clear c00 c01 f00 f01 c10 c11 c20 c21
   replace L:=(L.step be).z iz
   obtain ⟨A3, c3, rfl, _⟩:=iz.form
   clear be iz
   have c00:=L.b0.c0
   have c01:=L.b0.c1
   have f00:=L.b0.fr 0
   have f01:=L.b0.fr 1
   have c10:=L.tl.b0.c0
   have c11:=L.tl.b0.c1
   have c20:=L.tl.tl.b0.c0
   have c21:=L.tl.tl.b0.c1
   go_wp2_with fail
   have LP:=L.put (by omega) (by simp) (ng (sg b2 (y.natAbs - x.natAbs))) (A3) (zl (sg b2 (y.natAbs - x.natAbs))) (c3)
   have d0:=LP.b0.c0
   have d1:=LP.b0.c1
   unfold put2 at d0 d1
   exact bodyPost_ret (v:=.agg #[.bool (ng (sg b2 (y.natAbs - x.natAbs))), .slice (A3) (zl (sg b2 (y.natAbs - x.natAbs))) (c3)]) (by simp [results, Tryz.results154, go_sem, d0, d1]) rfl ⟨_, rfl, HA.out ▸ LP.hz, LP.below⟩
  ·have HA:=Hd9 (add_diff hs hge)
   have HB:=fun W h1 h2 => sub_any x.natAbs y.natAbs (.slice A (zl x) c) (.slice B (zl y) d) W h1 h2 (by omega)
   have HC:=fun W h1 h2 => sub_any y.natAbs x.natAbs (.slice B (zl y) d) (.slice A (zl x) c) W h1 h2 (by omega)
   unfold RetSub at HB HC
   simp only [if_pos hge, decide_eq_true hge] at HB HC
   have hls:=len_sub x.natAbs y.natAbs
   have HB2:=Hd9 HB
   have HC2:=Hd9 HC
   clear HB HC hs
   generalize ng x = b at *
   generalize ng y = b2 at *
   go_enter Tryz.func154, Tryz.ntmps154
   go_wp2_with fail
   have L:=(((L0.box (w.heap.size) (by simp) b A (zl x) c).box (w.heap.size + 1) (by simp) b2 B (zl y) d).box (w.heap.size + 2) (by simp) false none 0 0)
   have c00:=L.b0.c0
   have c01:=L.b0.c1
   have f00:=L.b0.fr 0
   have f01:=L.b0.fr 1
   have c10:=L.tl.b0.c0
   have c11:=L.tl.b0.c1
   have c20:=L.tl.tl.b0.c0
   have c21:=L.tl.tl.b0.c1
   refine (HB2.out _ (L.getN (by simp)) (L.getN (by simp))).mono ?_
   rintro e w1 ⟨v1, rfl, o⟩
   clear c00 c01 f00 f01 c10 c11 c20 c21
   replace L:=(L.step o.below).n o.isN
   clear o
   have c00:=L.b0.c0
   have c01:=L.b0.c1
   have f00:=L.b0.fr 0
   have f01:=L.b0.fr 1
   have c10:=L.tl.b0.c0
   have c11:=L.tl.b0.c1
   have c20:=L.tl.tl.b0.c0
   have c21:=L.tl.tl.b0.c1
   go_wp2_with fail
   refine (signed_any b (x.natAbs - y.natAbs) _ _ L.hn (by omega)).mono ?_
   rintro e w2 ⟨v3, rfl, iz, be⟩
   clear c00 c01 f00 f01 c10 c11 c20 c21
   replace L:=(L.step be).z iz
   obtain ⟨A3, c3, rfl, _⟩:=iz.form
   clear be iz
   have c00:=L.b0.c0
   have c01:=L.b0.c1
   have f00:=L.b0.fr 0
   have f01:=L.b0.fr 1
   have c10:=L.tl.b0.c0
   have c11:=L.tl.b0.c1
   have c20:=L.tl.tl.b0.c0
   have c21:=L.tl.tl.b0.c1
   go_wp2_with fail
   have LP:=L.put (by omega) (by simp) (ng (sg b (x.natAbs - y.natAbs))) (A3) (zl (sg b (x.natAbs - y.natAbs))) (c3)
   have d0:=LP.b0.c0
   have d1:=LP.b0.c1
   unfold put2 at d0 d1
   exact bodyPost_ret (v:=.agg #[.bool (ng (sg b (x.natAbs - y.natAbs))), .slice (A3) (zl (sg b (x.natAbs - y.natAbs))) (c3)]) (by simp [results, Tryz.results154, go_sem, d0, d1]) rfl ⟨_, rfl, HA.out ▸ LP.hz, LP.below⟩

theorem zmul_any (x y : Int) (vx vy : Value) (w : World) (hx : IsZ w vx x) (hy : IsZ w vy y) (lx : zl x ≤ 274877906944) (ly : zl y ≤ 274877906944) :
  Calls Tryz.prog 153 #[vx, vy] w (RetZ w (x * y)):=by
 obtain ⟨A, c, rfl, ix⟩:=hx.form
 obtain ⟨B, d, rfl, iy⟩:=hy.form
 have hlx:=abs_le lx
 have hly:=abs_le ly
 have L0:=(((((Lz.mk0 w).n iy).n ix).z hy).z hx)
 clear hx hy ix iy
 have HA:=Hd9 (show sg (!(ng x == ng y)) (x.natAbs * y.natAbs) = x * y from mul_sg x y)
 have hls:=len_mul x.natAbs y.natAbs
 generalize ng x = b at *
 generalize ng y = b2 at *
 go_enter Tryz.func153, Tryz.ntmps153
 go_wp2_with fail
 have L:=(((L0.box (w.heap.size) (by simp) b A (zl x) c).box (w.heap.size + 1) (by simp) b2 B (zl y) d).box (w.heap.size + 2) (by simp) false none 0 0)
 replace L:=L.drew
 have c00:=L.b0.c0
 have c01:=L.b0.c1
 have f00:=L.b0.fr 0
 have f01:=L.b0.fr 1
 have c10:=L.tl.b0.c0
 have c11:=L.tl.b0.c1
 have c20:=L.tl.tl.b0.c0
 have c21:=L.tl.tl.b0.c1
 go_region_held3 (fun w' => w'.cell? ⟨w.heap.size, 0, none⟩ = some (.bool b) ∧ w'.cell? ⟨w.heap.size, 1, none⟩ = some (.slice A (zl x) c) ∧ w'.cell? ⟨w.heap.size + 1, 0, none⟩ = some (.bool b2) ∧ w'.cell? ⟨w.heap.size + 1, 1, none⟩ = some (.slice B (zl y) d)) (first | (with_reducible exact ⟨L.tl.tl.b0.c0, L.tl.tl.b0.c1, L.tl.b0.c0, L.tl.b0.c1⟩) | exact ⟨L.tl.tl.b0.c0, L.tl.tl.b0.c1, L.tl.b0.c0, L.tl.b0.c1⟩ | (have LP:=L.put (by omega) (by simp) (ng (sg (!(b == b2)) (x.natAbs * y.natAbs))) (A3) (zl (sg (!(b == b2)) (x.natAbs * y.natAbs))) (c3); exact ⟨LP.tl.tl.b0.c0, LP.tl.tl.b0.c1, LP.tl.b0.c0, LP.tl.b0.c1⟩)) (first | (go_at_call 209; refine (mul_any x.natAbs y.natAbs _ _ _ (L.getN (by simp)) (L.getN (by simp)) (by omega) (by omega)).mono ?_; rintro e w2 ⟨v2, rfl, o⟩; replace L:=(L.step o.below).n o.isN; clear o) | (go_at_call 208; refine (signed_any _ _ _ _ L.hn (by omega)).mono ?_; rintro e w3 ⟨v3, rfl, iz, be⟩; replace L:=(L.step be).z iz; obtain ⟨A3, c3, rfl, _⟩:=iz.form; clear be iz; have d30:=L.b0.c0; have d31:=L.b0.c1; have g30:=L.b0.fr 0; have g31:=L.b0.fr 1))
 clear c00 c01 f00 f01 c10 c11 c20 c21
 go_wp2_with fail
 have LP:=L.put (by omega) (by simp) (ng (sg (!(b == b2)) (x.natAbs * y.natAbs))) (A3) (zl (sg (!(b == b2)) (x.natAbs * y.natAbs))) (c3)
 have d0:=LP.b0.c0
 have d1:=LP.b0.c1
 unfold put2 at d0 d1
 exact bodyPost_ret (v:=.agg #[.bool (ng (sg (!(b == b2)) (x.natAbs * y.natAbs))), .slice (A3) (zl (sg (!(b == b2)) (x.natAbs * y.natAbs))) (c3)]) (by simp [results, Tryz.results153, go_sem, d0, d1]) rfl ⟨_, rfl, HA.out ▸ LP.hz, LP.below⟩

end Go.Proofs.YtiddbhhhmeopeaaGreatDoor


/- Walks: integer.Valid, Of, Int, Sign, Cmp. -/
namespace Go.Proofs.YtiddbhhhmeopeaaGreatDoor
set_option maxHeartbeats 64000000
open Go.RowKit
set_option linter.unusedVariables false
set_option linter.unusedSimpArgs false
set_option maxRecDepth 100000

def sval (b : Bool) (l : List Nat) : Bool:=isTrim l && (!b || decide (0 < l.length))
theorem sval_z (z : Int) : sval (ng z) (dig z.natAbs) = true:=by
 unfold sval
 rw [isTrim_dig, Bool.true_and, length_dig]
 by_cases h : z < 0
 ·rw [decide_eq_true (show 0 < len z.natAbs from zl_pos (by omega))]; simp
 ·rw [ng_no (by omega)]; rfl

theorem zvalid_any (b : Bool) (l : List Nat) (A : Option Addr) (n c : Nat) (w : World) (h : Sl w A n c l) :
  Calls Tryz.prog 229 #[.agg #[.bool b, .slice A n c]] w (RetB w (sval b l)):=by
 have hn:=h.len
 have H:=Hd9 (fun W (hW : Below w.heap.size w W) => valid_any l A n c W (h.mono hW))
 unfold sval
 rw [hn]
 clear h hn
 generalize isTrim l = it at *
 rcases Nat.eq_zero_or_pos n with rfl | hn
 ·skip
  cases b
  ·cases it
   ·have B:=(Below.refl w.heap.size w).alloc (Nat.le_refl _) (.cells #[.bool false, .slice A 0 c] 24)
    go_enter Tryz.func229, Tryz.ntmps229
    go_wp2_with fail
    refine (H.out _ B).mono ?_
    rintro e w' ⟨rfl, rfl⟩
    go_wp2_with fail
    go_ret
    exact ⟨rfl, B⟩
   ·have B:=(Below.refl w.heap.size w).alloc (Nat.le_refl _) (.cells #[.bool false, .slice A 0 c] 24)
    go_enter Tryz.func229, Tryz.ntmps229
    go_wp2_with fail
    refine (H.out _ B).mono ?_
    rintro e w' ⟨rfl, rfl⟩
    go_wp2_with fail
    go_ret
    exact ⟨rfl, B⟩
  ·cases it
   ·have B:=(Below.refl w.heap.size w).alloc (Nat.le_refl _) (.cells #[.bool true, .slice A 0 c] 24)
    go_enter Tryz.func229, Tryz.ntmps229
    go_wp2_with fail
    refine (H.out _ B).mono ?_
    rintro e w' ⟨rfl, rfl⟩
    go_wp2_with fail
    go_ret
    exact ⟨rfl, B⟩
   ·have B:=(Below.refl w.heap.size w).alloc (Nat.le_refl _) (.cells #[.bool true, .slice A 0 c] 24)
    go_enter Tryz.func229, Tryz.ntmps229
    go_wp2_with fail
    refine (H.out _ B).mono ?_
    rintro e w' ⟨rfl, rfl⟩
    go_wp2_with fail
    go_ret
    exact ⟨rfl, B⟩
 ·have hz : ((n : Int) == 0) = false:=by rw [beq_eq_false_iff_ne]; omega
  have HD:=Hd9 (show decide (0 < n) = true from decide_eq_true hn)
  cases b
  ·cases it
   ·have B:=(Below.refl w.heap.size w).alloc (Nat.le_refl _) (.cells #[.bool false, .slice A n c] 24)
    go_enter Tryz.func229, Tryz.ntmps229
    go_wp2_with fail
    refine (H.out _ B).mono ?_
    rintro e w' ⟨rfl, rfl⟩
    go_wp2_with fail
    go_ret
    exact ⟨rfl, B⟩
   ·have B:=(Below.refl w.heap.size w).alloc (Nat.le_refl _) (.cells #[.bool false, .slice A n c] 24)
    go_enter Tryz.func229, Tryz.ntmps229
    go_wp2_with fail
    refine (H.out _ B).mono ?_
    rintro e w' ⟨rfl, rfl⟩
    go_wp2_with fail
    go_ret
    exact ⟨rfl, B⟩
  ·cases it
   ·have B:=(Below.refl w.heap.size w).alloc (Nat.le_refl _) (.cells #[.bool true, .slice A n c] 24)
    go_enter Tryz.func229, Tryz.ntmps229
    go_wp2_with fail
    refine (H.out _ B).mono ?_
    rintro e w' ⟨rfl, rfl⟩
    go_wp2_with fail
    go_ret
    exact ⟨rfl, B⟩
   ·have B:=(Below.refl w.heap.size w).alloc (Nat.le_refl _) (.cells #[.bool true, .slice A n c] 24)
    go_enter Tryz.func229, Tryz.ntmps229
    go_wp2_with fail
    refine (H.out _ B).mono ?_
    rintro e w' ⟨rfl, rfl⟩
    go_wp2_with fail
    go_ret
    exact ⟨by rw [HD.out]; rfl, B⟩

theorem zof_any (n : Int) (w : World) (h1 : -9223372036854775808 ≤ n) (h2 : n ≤ 9223372036854775807) :
  Calls Tryz.prog 181 #[.int .i64 n] w (RetZ w n):=by
 rcases Int.lt_or_le n 0 with hneg | hpos
 ·obtain ⟨k, rfl⟩ : ∃ k : Nat, n = -(k : Int):=⟨n.natAbs, by omega⟩
  have hk : 0 < k:=by omega
  have hk2 : k ≤ 9223372036854775808:=by omega
  obtain ⟨u, hu⟩ : ∃ u : Nat, IntKind.u64.wrap (-(k : Int)) = (u : Int):=⟨(IntKind.u64.wrap (-(k : Int))).toNat, by rw [IntKind.wrap_u64]; omega⟩
  have hu2 : IntKind.u64.wrap (-(u : Int)) = (k : Int):=by rw [IntKind.wrap_u64] at *; omega
  have HK:=Hd9 (show sg true k = -(k : Int) from rfl)
  have hlk : len k ≤ 2:=len_le2 (by omega)
  have HO:=Hd9 (fun W => of_any k W (by omega))
  have hlt : -(k : Int) < 0:=by omega
  go_enter Tryz.func181, Tryz.ntmps181
  go_wp2_with fail
  have L:=((Lz.mk0 w).box (w.heap.size) (by simp) false none 0 0)
  refine (HO.out _).mono ?_
  rintro e w1 ⟨v1, rfl, o⟩
  replace L:=(L.step o.below).n o.isN
  clear o
  have c00:=L.b0.c0
  have c01:=L.b0.c1
  have f00:=L.b0.fr 0
  have f01:=L.b0.fr 1
  go_wp2_with fail
  refine (signed_any true k _ _ L.hn (by omega)).mono ?_
  rintro e w2 ⟨v3, rfl, iz, be⟩
  clear c00 c01 f00 f01
  replace L:=(L.step be).z iz
  obtain ⟨A3, c3, rfl, _⟩:=iz.form
  clear be iz
  have c00:=L.b0.c0
  have c01:=L.b0.c1
  have f00:=L.b0.fr 0
  have f01:=L.b0.fr 1
  go_wp2_with fail
  have LP:=L.put (by omega) (by simp) (ng (sg true k)) (A3) (zl (sg true k)) (c3)
  have d0:=LP.b0.c0
  have d1:=LP.b0.c1
  unfold put2 at d0 d1
  exact bodyPost_ret (v:=.agg #[.bool (ng (sg true k)), .slice (A3) (zl (sg true k)) (c3)]) (by simp [results, Tryz.results181, go_sem, d0, d1]) rfl ⟨_, rfl, HK.out ▸ LP.hz, LP.below⟩
 ·obtain ⟨k, rfl⟩ : ∃ k : Nat, n = (k : Int):=⟨n.natAbs, by omega⟩
  have hu : IntKind.u64.wrap (k : Int) = (k : Int):=by rw [IntKind.wrap_u64]; omega
  have HK:=Hd9 (show sg false k = (k : Int) from rfl)
  have hlk : len k ≤ 2:=len_le2 (by omega)
  have HO:=Hd9 (fun W => of_any k W (by omega))
  go_enter Tryz.func181, Tryz.ntmps181
  go_wp2_with fail
  have L:=((Lz.mk0 w).box (w.heap.size) (by simp) false none 0 0)
  refine (HO.out _).mono ?_
  rintro e w1 ⟨v1, rfl, o⟩
  replace L:=(L.step o.below).n o.isN
  clear o
  have c00:=L.b0.c0
  have c01:=L.b0.c1
  have f00:=L.b0.fr 0
  have f01:=L.b0.fr 1
  go_wp2_with fail
  refine (signed_any false k _ _ L.hn (by omega)).mono ?_
  rintro e w2 ⟨v3, rfl, iz, be⟩
  clear c00 c01 f00 f01
  replace L:=(L.step be).z iz
  obtain ⟨A3, c3, rfl, _⟩:=iz.form
  clear be iz
  have c00:=L.b0.c0
  have c01:=L.b0.c1
  have f00:=L.b0.fr 0
  have f01:=L.b0.fr 1
  go_wp2_with fail
  have LP:=L.put (by omega) (by simp) (ng (sg false k)) (A3) (zl (sg false k)) (c3)
  have d0:=LP.b0.c0
  have d1:=LP.b0.c1
  unfold put2 at d0 d1
  exact bodyPost_ret (v:=.agg #[.bool (ng (sg false k)), .slice (A3) (zl (sg false k)) (c3)]) (by simp [results, Tryz.results181, go_sem, d0, d1]) rfl ⟨_, rfl, HK.out ▸ LP.hz, LP.below⟩

theorem zsign_any (x : Int) (vx : Value) (w : World) (hx : IsZ w vx x) (lx : zl x ≤ 274877906944) :
  Calls Tryz.prog 186 #[vx] w (RetI w (cmpI x 0)):=by
 obtain ⟨A, c, rfl, ix⟩:=hx.form
 have hlx:=abs_le lx
 have L0:=(((Lz.mk0 w).n ix).z hx)
 clear hx ix
 rcases Int.lt_trichotomy x 0 with h | h | h
 ·have HC:=Hd9 (cmpI_lt h)
  rw [ng_yes h] at L0 ⊢
  have hbl:=zl_pos (z:=x) (by omega)
  have hbb:=blen_pos (x:=x.natAbs) (by omega)
  have HN:=Hd9 (fun W hh => nbits_any x.natAbs (.slice A (zl x) c) W hh (by omega))
  generalize blen x.natAbs = bl at *
  clear h
  go_enter Tryz.func186, Tryz.ntmps186
  go_wp2_with fail
  have L:=(L0.box (w.heap.size) (by simp) true A (zl x) c)
  refine (HN.out _ (L.getN (by simp))).mono ?_
  rintro e w' ⟨rfl, rfl⟩
  have c00:=L.b0.c0
  have c01:=L.b0.c1
  have f00:=L.b0.fr 0
  have f01:=L.b0.fr 1
  go_wp2_with fail
  go_ret
  exact ⟨by rw [HC.out] <;> rfl, L.below⟩
 ·subst h
  have HC:=Hd9 (cmpI_eq 0)
  rw [zl_zero, show ng 0 = false from rfl] at L0 ⊢
  have HN:=Hd9 (fun W hh => nbits_any (0 : Int).natAbs (.slice A 0 c) W hh (by omega))
  rw [show blen (0 : Int).natAbs = 0 from rfl] at HN
  go_enter Tryz.func186, Tryz.ntmps186
  go_wp2_with fail
  have L:=(L0.box (w.heap.size) (by simp) false A 0 c)
  refine (HN.out _ (L.getN (by simp))).mono ?_
  rintro e w' ⟨rfl, rfl⟩
  have c00:=L.b0.c0
  have c01:=L.b0.c1
  have f00:=L.b0.fr 0
  have f01:=L.b0.fr 1
  go_wp2_with fail
  go_ret
  exact ⟨by rw [HC.out] <;> rfl, L.below⟩
 ·have HC:=Hd9 (cmpI_gt h)
  rw [ng_no (by omega)] at L0 ⊢
  have hbl:=zl_pos (z:=x) (by omega)
  have hbb:=blen_pos (x:=x.natAbs) (by omega)
  have HN:=Hd9 (fun W hh => nbits_any x.natAbs (.slice A (zl x) c) W hh (by omega))
  generalize blen x.natAbs = bl at *
  clear h
  go_enter Tryz.func186, Tryz.ntmps186
  go_wp2_with fail
  have L:=(L0.box (w.heap.size) (by simp) false A (zl x) c)
  refine (HN.out _ (L.getN (by simp))).mono ?_
  rintro e w' ⟨rfl, rfl⟩
  have c00:=L.b0.c0
  have c01:=L.b0.c1
  have f00:=L.b0.fr 0
  have f01:=L.b0.fr 1
  go_wp2_with fail
  go_ret
  exact ⟨by rw [HC.out] <;> rfl, L.below⟩

end Go.Proofs.YtiddbhhhmeopeaaGreatDoor


/- Walks: integer.Cmp, Shl, Shr. -/
namespace Go.Proofs.YtiddbhhhmeopeaaGreatDoor
set_option maxHeartbeats 64000000
open Go.RowKit
set_option linter.unusedVariables false
set_option linter.unusedSimpArgs false
set_option maxRecDepth 100000
attribute [local go_sem ↓] Go.wp_at_zero Go.wp_at_succ

theorem zcmp_any (x y : Int) (vx vy : Value) (w : World) (hx : IsZ w vx x) (hy : IsZ w vy y) (lx : zl x ≤ 274877906944) (ly : zl y ≤ 274877906944) :
  Calls Tryz.prog 122 #[vx, vy] w (RetI w (cmpI x y)):=by
 obtain ⟨A, c, rfl, ix⟩:=hx.form
 obtain ⟨B, d, rfl, iy⟩:=hy.form
 have hlx:=abs_le lx
 have hly:=abs_le ly
 have L0:=(((((Lz.mk0 w).n iy).n ix).z hy).z hx)
 clear hx hy ix iy
 have HX:=fun W h => zsign_any x (.agg #[.bool (ng x), .slice A (zl x) c]) W h lx
 have HY:=fun W h => zsign_any y (.agg #[.bool (ng y), .slice B (zl y) d]) W h ly
 by_cases hs : cmpI x 0 = cmpI y 0
 ·have hk:=cmpI_range (x.natAbs : Int) (y.natAbs : Int)
  have HN:=Hd9 (fun W h1 h2 => cmpB_any x.natAbs y.natAbs (.slice A (zl x) c) (.slice B (zl y) d) W h1 h2)
  rcases Int.lt_trichotomy x 0 with h | h | h
  ·have hy:=sign_neg hs h
   have HE:=Hd9 (cmp_same_neg h hy)
   rw [cmpI_lt h] at HX
   rw [cmpI_lt hy] at HY
   generalize cmpI (x.natAbs : Int) (y.natAbs : Int) = k at *
   have HX2:=Hd9 HX
   have HY2:=Hd9 HY
   have hcm:=fun W => compareI_any (-1) (-1) W
   rw [cmpI_eq] at hcm
   have HCM:=Hd9 hcm
   clear HX HY hs h hy hcm
   generalize ng x = b at *
   generalize ng y = b2 at *
   go_enter Tryz.func122, Tryz.ntmps122
   go_wp2_with fail
   have L:=((L0.box (w.heap.size) (by simp) b A (zl x) c).box (w.heap.size + 1) (by simp) b2 B (zl y) d)
   have c00:=L.b0.c0
   have c01:=L.b0.c1
   have c10:=L.tl.b0.c0
   have c11:=L.tl.b0.c1
   refine (HX2.out _ (L.getZ (by simp))).mono ?_
   rintro e w1 ⟨rfl, be⟩
   clear c00 c01 c10 c11
   replace L:=L.step be
   clear be HX2
   have c00:=L.b0.c0
   have c01:=L.b0.c1
   have c10:=L.tl.b0.c0
   have c11:=L.tl.b0.c1
   go_wp2_with fail
   refine (HY2.out _ (L.getZ (by simp))).mono ?_
   rintro e w2 ⟨rfl, be⟩
   clear c00 c01 c10 c11
   replace L:=L.step be
   clear be HY2
   have c00:=L.b0.c0
   have c01:=L.b0.c1
   have c10:=L.tl.b0.c0
   have c11:=L.tl.b0.c1
   go_wp2_with fail
   refine (HCM.out _).mono ?_
   rintro e w' ⟨rfl, rfl⟩
   clear HCM
   go_wp2_with fail
   refine (HN.out _ (L.getN (by simp)) (L.getN (by simp))).mono ?_
   rintro e w3 ⟨rfl, be⟩
   clear c00 c01 c10 c11
   replace L:=L.step be
   clear be HN
   have c00:=L.b0.c0
   have c01:=L.b0.c1
   have c10:=L.tl.b0.c0
   have c11:=L.tl.b0.c1
   go_wp2_with fail
   go_ret
   exact ⟨by rw [HE.out] <;> rfl, L.below⟩
  ·have hy:=sign_zero hs h
   have HE:=Hd9 (show cmpI x y = 0 from by rw [h, hy, cmpI_eq])
   rw [show cmpI x 0 = 0 from by rw [h, cmpI_eq]] at HX
   rw [show cmpI y 0 = 0 from by rw [hy, cmpI_eq]] at HY
   generalize cmpI (x.natAbs : Int) (y.natAbs : Int) = k at *
   have HX2:=Hd9 HX
   have HY2:=Hd9 HY
   have hcm:=fun W => compareI_any 0 0 W
   rw [cmpI_eq] at hcm
   have HCM:=Hd9 hcm
   clear HX HY hs h hy hcm
   generalize ng x = b at *
   generalize ng y = b2 at *
   go_enter Tryz.func122, Tryz.ntmps122
   go_wp2_with fail
   have L:=((L0.box (w.heap.size) (by simp) b A (zl x) c).box (w.heap.size + 1) (by simp) b2 B (zl y) d)
   have c00:=L.b0.c0
   have c01:=L.b0.c1
   have c10:=L.tl.b0.c0
   have c11:=L.tl.b0.c1
   refine (HX2.out _ (L.getZ (by simp))).mono ?_
   rintro e w1 ⟨rfl, be⟩
   clear c00 c01 c10 c11
   replace L:=L.step be
   clear be HX2
   have c00:=L.b0.c0
   have c01:=L.b0.c1
   have c10:=L.tl.b0.c0
   have c11:=L.tl.b0.c1
   go_wp2_with fail
   refine (HY2.out _ (L.getZ (by simp))).mono ?_
   rintro e w2 ⟨rfl, be⟩
   clear c00 c01 c10 c11
   replace L:=L.step be
   clear be HY2
   have c00:=L.b0.c0
   have c01:=L.b0.c1
   have c10:=L.tl.b0.c0
   have c11:=L.tl.b0.c1
   go_wp2_with fail
   refine (HCM.out _).mono ?_
   rintro e w' ⟨rfl, rfl⟩
   clear HCM
   go_wp2_with fail
   refine (HN.out _ (L.getN (by simp)) (L.getN (by simp))).mono ?_
   rintro e w3 ⟨rfl, be⟩
   clear c00 c01 c10 c11
   replace L:=L.step be
   clear be HN
   have c00:=L.b0.c0
   have c01:=L.b0.c1
   have c10:=L.tl.b0.c0
   have c11:=L.tl.b0.c1
   go_wp2_with fail
   go_ret
   exact ⟨by rw [HE.out] <;> rfl, L.below⟩
  ·have hy:=sign_pos hs h
   have HE:=Hd9 (cmp_same_pos h hy)
   rw [cmpI_gt h] at HX
   rw [cmpI_gt hy] at HY
   generalize cmpI (x.natAbs : Int) (y.natAbs : Int) = k at *
   have HX2:=Hd9 HX
   have HY2:=Hd9 HY
   have hcm:=fun W => compareI_any 1 1 W
   rw [cmpI_eq] at hcm
   have HCM:=Hd9 hcm
   clear HX HY hs h hy hcm
   generalize ng x = b at *
   generalize ng y = b2 at *
   go_enter Tryz.func122, Tryz.ntmps122
   go_wp2_with fail
   have L:=((L0.box (w.heap.size) (by simp) b A (zl x) c).box (w.heap.size + 1) (by simp) b2 B (zl y) d)
   have c00:=L.b0.c0
   have c01:=L.b0.c1
   have c10:=L.tl.b0.c0
   have c11:=L.tl.b0.c1
   refine (HX2.out _ (L.getZ (by simp))).mono ?_
   rintro e w1 ⟨rfl, be⟩
   clear c00 c01 c10 c11
   replace L:=L.step be
   clear be HX2
   have c00:=L.b0.c0
   have c01:=L.b0.c1
   have c10:=L.tl.b0.c0
   have c11:=L.tl.b0.c1
   go_wp2_with fail
   refine (HY2.out _ (L.getZ (by simp))).mono ?_
   rintro e w2 ⟨rfl, be⟩
   clear c00 c01 c10 c11
   replace L:=L.step be
   clear be HY2
   have c00:=L.b0.c0
   have c01:=L.b0.c1
   have c10:=L.tl.b0.c0
   have c11:=L.tl.b0.c1
   go_wp2_with fail
   refine (HCM.out _).mono ?_
   rintro e w' ⟨rfl, rfl⟩
   clear HCM
   go_wp2_with fail
   refine (HN.out _ (L.getN (by simp)) (L.getN (by simp))).mono ?_
   rintro e w3 ⟨rfl, be⟩
   clear c00 c01 c10 c11
   replace L:=L.step be
   clear be HN
   have c00:=L.b0.c0
   have c01:=L.b0.c1
   have c10:=L.tl.b0.c0
   have c11:=L.tl.b0.c1
   go_wp2_with fail
   go_ret
   exact ⟨by rw [HE.out] <;> rfl, L.below⟩
 ·have HE:=Hd9 (cmp_diff hs)
  have hne : cmpI (cmpI x 0) (cmpI y 0) ≠ 0:=fun e => hs (cmpI_zero e)
  have HX2:=Hd9 HX
  have HY2:=Hd9 HY
  clear HX HY hs
  generalize cmpI x 0 = s1 at *
  generalize cmpI y 0 = s2 at *
  have HCM:=Hd9 (fun W => compareI_any s1 s2 W)
  generalize cmpI s1 s2 = k at *
  have hk : (k == 0) = false:=by rw [beq_eq_false_iff_ne]; exact hne
  have hk2 : (k != 0) = true:=by rw [bne, hk]; rfl
  generalize ng x = b at *
  generalize ng y = b2 at *
  go_enter Tryz.func122, Tryz.ntmps122
  go_wp2_with fail
  have L:=((L0.box (w.heap.size) (by simp) b A (zl x) c).box (w.heap.size + 1) (by simp) b2 B (zl y) d)
  have c00:=L.b0.c0
  have c01:=L.b0.c1
  have c10:=L.tl.b0.c0
  have c11:=L.tl.b0.c1
  refine (HX2.out _ (L.getZ (by simp))).mono ?_
  rintro e w1 ⟨rfl, be⟩
  clear c00 c01 c10 c11
  replace L:=L.step be
  clear be HX2
  have c00:=L.b0.c0
  have c01:=L.b0.c1
  have c10:=L.tl.b0.c0
  have c11:=L.tl.b0.c1
  go_wp2_with fail
  refine (HY2.out _ (L.getZ (by simp))).mono ?_
  rintro e w2 ⟨rfl, be⟩
  clear c00 c01 c10 c11
  replace L:=L.step be
  clear be HY2
  have c00:=L.b0.c0
  have c01:=L.b0.c1
  have c10:=L.tl.b0.c0
  have c11:=L.tl.b0.c1
  go_wp2_with fail
  refine (HCM.out _).mono ?_
  rintro e w' ⟨rfl, rfl⟩
  clear HCM
  go_wp2_with fail
  go_ret
  exact ⟨by rw [HE.out] <;> rfl, L.below⟩

theorem zshl_any (x : Int) (vx : Value) (w : World) (hx : IsZ w vx x) (lx : zl x ≤ 274877906944) (k : Nat) (hk : k ≤ 1048576) :
  Calls Tryz.prog 192 #[vx, .int .i64 (k : Int)] w (RetZ w (x * 2 ^ k)):=by
 obtain ⟨A, c, rfl, ix⟩:=hx.form
 have hlx:=abs_le lx
 have L0:=(((Lz.mk0 w).n ix).z hx)
 clear hx ix
 have HA:=Hd9 (shl_sg x k)
 have hls:=len_shl x.natAbs k
 have HS:=Hd9 (fun W h => shlK_any x.natAbs k (.slice A (zl x) c) W h (by omega) (by omega))
 obtain ⟨p, hp⟩:=nm9 (x.natAbs * 2 ^ k)
 obtain ⟨q, hq⟩:=nm9 (x * 2 ^ k)
 rw [hp] at HA hls HS
 rw [hq] at HA ⊢
 clear hp hq
 generalize ng x = b at *
 go_enter Tryz.func192, Tryz.ntmps192
 go_wp2_with fail
 have L:=((L0.box (w.heap.size) (by simp) b A (zl x) c).box (w.heap.size + 1) (by simp) false none 0 0)
 replace L:=L.drew
 have c00:=L.b0.c0
 have c01:=L.b0.c1
 have f00:=L.b0.fr 0
 have f01:=L.b0.fr 1
 have c10:=L.tl.b0.c0
 have c11:=L.tl.b0.c1
 go_region_held3 (fun w' => w'.cell? ⟨w.heap.size, 0, none⟩ = some (.bool b) ∧ w'.cell? ⟨w.heap.size, 1, none⟩ = some (.slice A (zl x) c)) (first | (with_reducible exact ⟨L.tl.b0.c0, L.tl.b0.c1⟩) | exact ⟨L.tl.b0.c0, L.tl.b0.c1⟩ | (have LP:=L.put (by omega) (by simp) (ng (sg b p)) (A3) (zl (sg b p)) (c3); exact ⟨LP.tl.b0.c0, LP.tl.b0.c1⟩)) (first | (go_at_call 232; refine (HS.out _ (L.getN (by simp))).mono ?_; rintro e w2 ⟨v2, rfl, o⟩; replace L:=(L.step o.below).n o.isN; clear o) | (go_at_call 208; refine (signed_any b _ _ _ L.hn (by omega)).mono ?_; rintro e w3 ⟨v3, rfl, iz, be⟩; replace L:=(L.step be).z iz; obtain ⟨A3, c3, rfl, _⟩:=iz.form; clear be iz; have d30:=L.b0.c0; have d31:=L.b0.c1; have g30:=L.b0.fr 0; have g31:=L.b0.fr 1))
 clear c00 c01 f00 f01 c10 c11
 go_wp2_with fail
 have LP:=L.put (by omega) (by simp) (ng (sg b p)) (A3) (zl (sg b p)) (c3)
 have d0:=LP.b0.c0
 have d1:=LP.b0.c1
 unfold put2 at d0 d1
 exact bodyPost_ret (v:=.agg #[.bool (ng (sg b p)), .slice (A3) (zl (sg b p)) (c3)]) (by simp [results, Tryz.results192, go_sem, d0, d1]) rfl ⟨_, rfl, HA.out ▸ LP.hz, LP.below⟩

theorem zshr_any (x : Int) (vx : Value) (w : World) (hx : IsZ w vx x) (lx : zl x ≤ 274877906944) (k : Nat) (hk : k ≤ 1048576) (hT : Tab w) :
  Calls Tryz.prog 207 #[vx, .int .i64 (k : Int)] w (RetZ w (x / 2 ^ k)):=by
 obtain ⟨A, c, rfl, ix⟩:=hx.form
 have hlx:=abs_le lx
 have L0:=(((Lz.mk0 w).n ix).z hx)
 clear hx ix
 have HA:=shr_floor (x:=x) k
 have hls : len (x.natAbs / 2 ^ k) ≤ len x.natAbs:=len_mono (Nat.div_le_self _ _)
 have HS:=Hd9 (fun W h => shrK_any x.natAbs k (.slice A (zl x) c) W h (by omega) (by omega))
 have hl11 : len 1 ≤ 1:=len_le1 (by omega)
 have hl1:=len_add (x.natAbs / 2 ^ k) 1
 have HG:=fun W h => zsign_any x (.agg #[.bool (ng x), .slice A (zl x) c]) W h lx
 by_cases hneg : x < 0
 ·rw [cmpI_lt hneg] at HG
  rw [ng_yes hneg] at HA HG L0 ⊢
  have HG2:=Hd9 HG
  clear HG
  have hp : 0 < x.natAbs:=by omega
  have HZ:=Hd9 (fun W h h2 => nzeros_any x.natAbs (.slice A (zl x) c) W h (by omega) h2)
  have T:=Hd9 hT
  clear hT
  rcases Nat.lt_or_ge (tz x.natAbs) k with hlt | hge
  ·rw [decide_eq_true ((shr_zero_or k hp).1 hlt), Bool.and_true, if_pos rfl] at HA
   have HA2:=Hd9 HA.symm
   clear HA hneg hp
   generalize tz x.natAbs = t at *
   obtain ⟨q, hq⟩:=nm9 (x.natAbs / 2 ^ k)
   obtain ⟨z, hz⟩:=nm9 (x / 2 ^ k)
   rw [hq] at HA2 hls HS hl1
   rw [hz] at HA2 ⊢
   clear hq hz
   go_enter Tryz.func207, Tryz.ntmps207
   go_wp2_with fail
   have L:=((L0.box (w.heap.size) (by simp) true A (zl x) c).box (w.heap.size + 1) (by simp) false none 0 0)
   refine (HS.out _ (L.getN (by simp))).mono ?_
   rintro e w1 ⟨v1, rfl, o⟩
   replace L:=(L.step o.below).n o.isN
   clear o
   have c00:=L.b0.c0
   have c01:=L.b0.c1
   have f00:=L.b0.fr 0
   have f01:=L.b0.fr 1
   have c10:=L.tl.b0.c0
   have c11:=L.tl.b0.c1
   go_wp2_with fail
   refine (HG2.out _ (L.getZ (by simp))).mono ?_
   rintro e w2 ⟨rfl, be⟩
   clear c00 c01 f00 f01 c10 c11
   replace L:=L.step be
   clear be HG2
   have c00:=L.b0.c0
   have c01:=L.b0.c1
   have f00:=L.b0.fr 0
   have f01:=L.b0.fr 1
   have c10:=L.tl.b0.c0
   have c11:=L.tl.b0.c1
   go_wp2_with fail
   refine (HZ.out _ (L.getN (by simp)) (T.out.mono L.below)).mono ?_
   rintro e w' ⟨rfl, rfl⟩
   clear HZ
   go_wp2_with fail
   refine (of_any 1 _ (by omega)).mono ?_
   rintro e w3 ⟨v5, rfl, o⟩
   clear c00 c01 f00 f01 c10 c11
   replace L:=(L.step o.below).n o.isN
   clear o
   have c00:=L.b0.c0
   have c01:=L.b0.c1
   have f00:=L.b0.fr 0
   have f01:=L.b0.fr 1
   have c10:=L.tl.b0.c0
   have c11:=L.tl.b0.c1
   go_wp2_with fail
   refine (add_any q 1 _ _ _ (L.getN (by simp)) (L.getN (by simp)) (by omega) (by omega)).mono ?_
   rintro e w4 ⟨v6, rfl, o⟩
   clear c00 c01 f00 f01 c10 c11
   replace L:=(L.step o.below).n o.isN
   clear o
   have c00:=L.b0.c0
   have c01:=L.b0.c1
   have f00:=L.b0.fr 0
   have f01:=L.b0.fr 1
   have c10:=L.tl.b0.c0
   have c11:=L.tl.b0.c1
   have HA:=HA2
   go_wp2_with fail
   refine (signed_any true (q + 1) _ _ (L.getN (by simp)) (by omega)).mono ?_
   rintro e w5 ⟨v3, rfl, iz, be⟩
   clear c00 c01 f00 f01 c10 c11
   replace L:=(L.step be).z iz
   obtain ⟨A3, c3, rfl, _⟩:=iz.form
   clear be iz
   have c00:=L.b0.c0
   have c01:=L.b0.c1
   have f00:=L.b0.fr 0
   have f01:=L.b0.fr 1
   have c10:=L.tl.b0.c0
   have c11:=L.tl.b0.c1
   go_wp2_with fail
   have LP:=L.put (by omega) (by simp) (ng (sg true (q + 1))) (A3) (zl (sg true (q + 1))) (c3)
   have d0:=LP.b0.c0
   have d1:=LP.b0.c1
   unfold put2 at d0 d1
   exact bodyPost_ret (v:=.agg #[.bool (ng (sg true (q + 1))), .slice (A3) (zl (sg true (q + 1))) (c3)]) (by simp [results, Tryz.results207, go_sem, d0, d1]) rfl ⟨_, rfl, HA.out ▸ LP.hz, LP.below⟩
  ·rw [decide_eq_false (fun h => absurd ((shr_zero_or k hp).2 h) (by omega)), Bool.and_false, if_neg (by simp)] at HA
   have HA2:=Hd9 HA.symm
   clear HA hneg hp
   generalize tz x.natAbs = t at *
   obtain ⟨q, hq⟩:=nm9 (x.natAbs / 2 ^ k)
   obtain ⟨z, hz⟩:=nm9 (x / 2 ^ k)
   rw [hq] at HA2 hls HS hl1
   rw [hz] at HA2 ⊢
   clear hq hz
   go_enter Tryz.func207, Tryz.ntmps207
   go_wp2_with fail
   have L:=((L0.box (w.heap.size) (by simp) true A (zl x) c).box (w.heap.size + 1) (by simp) false none 0 0)
   refine (HS.out _ (L.getN (by simp))).mono ?_
   rintro e w1 ⟨v1, rfl, o⟩
   replace L:=(L.step o.below).n o.isN
   clear o
   have c00:=L.b0.c0
   have c01:=L.b0.c1
   have f00:=L.b0.fr 0
   have f01:=L.b0.fr 1
   have c10:=L.tl.b0.c0
   have c11:=L.tl.b0.c1
   go_wp2_with fail
   refine (HG2.out _ (L.getZ (by simp))).mono ?_
   rintro e w2 ⟨rfl, be⟩
   clear c00 c01 f00 f01 c10 c11
   replace L:=L.step be
   clear be HG2
   have c00:=L.b0.c0
   have c01:=L.b0.c1
   have f00:=L.b0.fr 0
   have f01:=L.b0.fr 1
   have c10:=L.tl.b0.c0
   have c11:=L.tl.b0.c1
   go_wp2_with fail
   refine (HZ.out _ (L.getN (by simp)) (T.out.mono L.below)).mono ?_
   rintro e w' ⟨rfl, rfl⟩
   clear HZ
   have HA:=HA2
   go_wp2_with fail
   refine (signed_any true q _ _ (L.getN (by simp)) (by omega)).mono ?_
   rintro e w3 ⟨v3, rfl, iz, be⟩
   clear c00 c01 f00 f01 c10 c11
   replace L:=(L.step be).z iz
   obtain ⟨A3, c3, rfl, _⟩:=iz.form
   clear be iz
   have c00:=L.b0.c0
   have c01:=L.b0.c1
   have f00:=L.b0.fr 0
   have f01:=L.b0.fr 1
   have c10:=L.tl.b0.c0
   have c11:=L.tl.b0.c1
   go_wp2_with fail
   have LP:=L.put (by omega) (by simp) (ng (sg true q)) (A3) (zl (sg true q)) (c3)
   have d0:=LP.b0.c0
   have d1:=LP.b0.c1
   unfold put2 at d0 d1
   exact bodyPost_ret (v:=.agg #[.bool (ng (sg true q)), .slice (A3) (zl (sg true q)) (c3)]) (by simp [results, Tryz.results207, go_sem, d0, d1]) rfl ⟨_, rfl, HA.out ▸ LP.hz, LP.below⟩
 ·have hc0 : 0 ≤ cmpI x 0:=by unfold cmpI; rw [if_neg hneg]; split <;> omega
  rw [ng_no (by omega)] at HA HG L0 ⊢
  rw [Bool.false_and, if_neg (by simp)] at HA
  have HG2:=Hd9 HG
  have HA2:=Hd9 HA.symm
  clear HG HA hneg hT
  generalize cmpI x 0 = cc at *
  obtain ⟨q, hq⟩:=nm9 (x.natAbs / 2 ^ k)
  obtain ⟨z, hz⟩:=nm9 (x / 2 ^ k)
  rw [hq] at HA2 hls HS hl1
  rw [hz] at HA2 ⊢
  clear hq hz
  go_enter Tryz.func207, Tryz.ntmps207
  go_wp2_with fail
  have L:=((L0.box (w.heap.size) (by simp) false A (zl x) c).box (w.heap.size + 1) (by simp) false none 0 0)
  refine (HS.out _ (L.getN (by simp))).mono ?_
  rintro e w1 ⟨v1, rfl, o⟩
  replace L:=(L.step o.below).n o.isN
  clear o
  have c00:=L.b0.c0
  have c01:=L.b0.c1
  have f00:=L.b0.fr 0
  have f01:=L.b0.fr 1
  have c10:=L.tl.b0.c0
  have c11:=L.tl.b0.c1
  go_wp2_with fail
  refine (HG2.out _ (L.getZ (by simp))).mono ?_
  rintro e w2 ⟨rfl, be⟩
  clear c00 c01 f00 f01 c10 c11
  replace L:=L.step be
  clear be HG2
  have c00:=L.b0.c0
  have c01:=L.b0.c1
  have f00:=L.b0.fr 0
  have f01:=L.b0.fr 1
  have c10:=L.tl.b0.c0
  have c11:=L.tl.b0.c1
  have HA:=HA2
  go_wp2_with fail
  refine (signed_any false q _ _ (L.getN (by simp)) (by omega)).mono ?_
  rintro e w3 ⟨v3, rfl, iz, be⟩
  clear c00 c01 f00 f01 c10 c11
  replace L:=(L.step be).z iz
  obtain ⟨A3, c3, rfl, _⟩:=iz.form
  clear be iz
  have c00:=L.b0.c0
  have c01:=L.b0.c1
  have f00:=L.b0.fr 0
  have f01:=L.b0.fr 1
  have c10:=L.tl.b0.c0
  have c11:=L.tl.b0.c1
  go_wp2_with fail
  have LP:=L.put (by omega) (by simp) (ng (sg false q)) (A3) (zl (sg false q)) (c3)
  have d0:=LP.b0.c0
  have d1:=LP.b0.c1
  unfold put2 at d0 d1
  exact bodyPost_ret (v:=.agg #[.bool (ng (sg false q)), .slice (A3) (zl (sg false q)) (c3)]) (by simp [results, Tryz.results207, go_sem, d0, d1]) rfl ⟨_, rfl, HA.out ▸ LP.hz, LP.below⟩

end Go.Proofs.YtiddbhhhmeopeaaGreatDoor


/- Walks: integer.DivMod. -/
namespace Go.Proofs.YtiddbhhhmeopeaaGreatDoor
set_option maxHeartbeats 64000000
open Go.RowKit
set_option linter.unusedVariables false
set_option linter.unusedSimpArgs false
set_option maxRecDepth 100000
attribute [local go_sem ↓] Go.wp_at_zero Go.wp_at_succ
def RetZQ (w : World) (q r : Int) (e : Ending) (w' : World) : Prop:=∃ vq vr, e = .returned (.tuple #[vq, vr, .bool true]) ∧ IsZ w' vq q ∧ IsZ w' vr r ∧ Below w.heap.size w w'
theorem zdivmod_any (x y : Int) (vx vy : Value) (w : World) (hx : IsZ w vx x) (hy : IsZ w vy y) (lx : zl x ≤ 268435456) (ly : zl y ≤ 268435456) (hy0 : y ≠ 0) :
  Calls Tryz.prog 220 #[vx, vy] w (RetZQ w (x.fdiv y) (x.fmod y)):=by
 obtain ⟨A, c, rfl, ix⟩:=hx.form
 obtain ⟨B, d, rfl, iy⟩:=hy.form
 have hlx:=abs_le lx
 have hly:=abs_le ly
 have L0:=((Lz.mk0 w).n iy).n ix
 clear hx hy ix iy
 have hy1 : 0 < y.natAbs:=by omega
 have HD:=Hd9 (fun W h1 h2 => divmod_any x.natAbs y.natAbs (.slice A (zl x) c) (.slice B (zl y) d) W h1 h2 (by omega) (by omega) hy1)
 have hlq:=len_div x.natAbs y.natAbs
 have hlr:=len_mod (x:=x.natAbs) hy1
 have hmr:=Nat.mod_lt x.natAbs hy1
 have hl11 : len 1 ≤ 1:=len_le1 (by omega)
 have hl1:=len_add (x.natAbs / y.natAbs) 1
 have hls:=len_sub y.natAbs (x.natAbs % y.natAbs)
 by_cases hs : ng x = ng y
 ·have HA:=floor_same hy0 hs
  rw [hs] at *
  rw [show ((x.natAbs / y.natAbs : Nat) : Int) = sg false (x.natAbs / y.natAbs) from rfl] at HA
  have HQ:=Hd9 HA.1.symm
  have HR:=Hd9 HA.2.symm
  clear HA
  obtain ⟨q, hq⟩:=nm9 (x.natAbs / y.natAbs)
  obtain ⟨r, hr⟩:=nm9 (x.natAbs % y.natAbs)
  rw [hq, hr] at HD
  rw [hq] at HQ hlq hl1
  rw [hr] at HR hlr hmr hls
  clear hq hr
  have hzr:=trivial
  obtain ⟨qf, hqf⟩:=nm9 (x.fdiv y)
  obtain ⟨rf, hrf⟩:=nm9 (x.fmod y)
  rw [hqf] at HQ ⊢
  rw [hrf] at HR ⊢
  clear hqf hrf
  clear hs hy0
  generalize ng y = b2 at *
  go_enter Tryz.func220, Tryz.ntmps220
  go_wp2_with fail
  have L:=((((L0.box (w.heap.size) (by simp) b2 A (zl x) c).box (w.heap.size + 1) (by simp) b2 B (zl y) d).box (w.heap.size + 2) (by simp) false none 0 0).box (w.heap.size + 3) (by simp) false none 0 0)
  have c00:=L.b0.c0
  have c01:=L.b0.c1
  have c10:=L.tl.b0.c0
  have c11:=L.tl.b0.c1
  have c20:=L.tl.tl.b0.c0
  have c21:=L.tl.tl.b0.c1
  have c30:=L.tl.tl.tl.b0.c0
  have c31:=L.tl.tl.tl.b0.c1
  refine (HD.out _ (L.getN (by simp)) (L.getN (by simp))).mono ?_
  rintro e w1 ⟨vq, vr, rfl, oq, or, be⟩
  clear c00 c01 c10 c11 c20 c21 c30 c31
  replace L:=((L.step be).n (isN_of_own (x:=q) oq rfl)).n (isN_of_own (x:=r) or rfl)
  clear oq or be HD
  obtain ⟨A1, c1, rfl⟩:=L.hn.form
  have c00:=L.b0.c0
  have c01:=L.b0.c1
  have c10:=L.tl.b0.c0
  have c11:=L.tl.b0.c1
  have c20:=L.tl.tl.b0.c0
  have c21:=L.tl.tl.b0.c1
  have c30:=L.tl.tl.tl.b0.c0
  have c31:=L.tl.tl.tl.b0.c1
  clear c00 c01 c10 c11 c20 c21 c30 c31
  have c00:=L.b0.c0
  have c01:=L.b0.c1
  have c10:=L.tl.b0.c0
  have c11:=L.tl.b0.c1
  have c20:=L.tl.tl.b0.c0
  have c21:=L.tl.tl.b0.c1
  have c30:=L.tl.tl.tl.b0.c0
  have c31:=L.tl.tl.tl.b0.c1
  go_wp2_with fail
  replace L:=L.drew
  skip
  go_region_held3 (fun w' => w'.cell? ⟨w.heap.size + 1, 0, none⟩ = some (.bool b2)) (first | (with_reducible exact L.tl.tl.b0.c0) | (have LP:=L.swap.put (by omega) (by simp) (ng (sg false q)) A8 (zl (sg false q)) c8; unfold put2 at LP; have kk:=LP.tl.tl.b0.c0; simpa using kk) | (have LP:=L.swap.put (by omega) (by simp) (ng (sg false q)) A8 (zl (sg false q)) c8; have LQ:=LP.swap.put (by omega) (by simp) (ng (sg b2 r)) A9 (zl (sg b2 r)) c9; unfold put2 at LQ; have kk:=LQ.tl.tl.b0.c0; simpa using kk)) (first | (go_at_call 208; (with_reducible refine (signed_any false q _ _ (L.getN (by simp)) (by omega)).mono ?_); rintro e w8 ⟨v8, rfl, iz, be⟩; replace L:=(L.step be).z iz; obtain ⟨A8, c8, rfl, _⟩:=iz.form; clear be iz) | (go_at_call 208; (with_reducible refine (signed_any b2 r _ _ (L.getN (by simp)) (by omega)).mono ?_); rintro e w9 ⟨v9, rfl, iz, be⟩; replace L:=(L.step be).z iz; obtain ⟨A9, c9, rfl, _⟩:=iz.form; clear be iz; have d0:=L.tl.b0.c0; have d1:=L.tl.b0.c1; have g0:=L.tl.b0.fr 0; have g1:=L.tl.b0.fr 1; have e0:=L.b0.c0; have e1:=L.b0.c1; have h0:=L.b0.fr 0; have h1:=L.b0.fr 1))
  clear c00 c01 c10 c11 c20 c21 c30 c31
  go_wp2_with fail
  have LP:=L.swap.put (by omega) (by simp) (ng (sg false q)) A8 (zl (sg false q)) c8
  have LQ:=LP.swap.put (by omega) (by simp) (ng (sg b2 r)) A9 (zl (sg b2 r)) c9
  have k0:=LQ.b0.c0
  have k1:=LQ.b0.c1
  have k2:=LQ.tl.b0.c0
  have k3:=LQ.tl.b0.c1
  unfold put2 at k0 k1 k2 k3
  exact bodyPost_ret (v:=.tuple #[.agg #[.bool (ng (sg false q)), .slice A8 (zl (sg false q)) c8], .agg #[.bool (ng (sg b2 r)), .slice A9 (zl (sg b2 r)) c9], .bool true]) (by simp [results, Tryz.results220, go_sem, k0, k1, k2, k3]) rfl ⟨_, _, rfl, HQ.out ▸ LQ.getZ (by simp), HR.out ▸ LQ.getZ (by simp), LQ.below⟩
 ·have hbb : (ng x == ng y) = false:=by rw [beq_eq_false_iff_ne]; exact hs
  rcases Nat.eq_zero_or_pos (x.natAbs % y.natAbs) with hz | hz
  ·have HA:=floor_exact hy0 hs hz
   rw [show (0 : Int) = sg (ng y) (x.natAbs % y.natAbs) from by rw [hz]; cases ng y <;> rfl] at HA
   have HQ:=Hd9 HA.1.symm
   have HR:=Hd9 HA.2.symm
   clear HA
   obtain ⟨q, hq⟩:=nm9 (x.natAbs / y.natAbs)
   obtain ⟨r, hr⟩:=nm9 (x.natAbs % y.natAbs)
   rw [hq, hr] at HD
   rw [hq] at HQ hlq hl1
   rw [hr] at HR hlr hmr hls hz
   clear hq hr
   have hzr:=hz
   subst hz
   obtain ⟨qf, hqf⟩:=nm9 (x.fdiv y)
   obtain ⟨rf, hrf⟩:=nm9 (x.fmod y)
   rw [hqf] at HQ ⊢
   rw [hrf] at HR ⊢
   clear hqf hrf
   clear hs hy0
   generalize ng x = b at *
   generalize ng y = b2 at *
   go_enter Tryz.func220, Tryz.ntmps220
   go_wp2_with fail
   have L:=((((L0.box (w.heap.size) (by simp) b A (zl x) c).box (w.heap.size + 1) (by simp) b2 B (zl y) d).box (w.heap.size + 2) (by simp) false none 0 0).box (w.heap.size + 3) (by simp) false none 0 0)
   have c00:=L.b0.c0
   have c01:=L.b0.c1
   have c10:=L.tl.b0.c0
   have c11:=L.tl.b0.c1
   have c20:=L.tl.tl.b0.c0
   have c21:=L.tl.tl.b0.c1
   have c30:=L.tl.tl.tl.b0.c0
   have c31:=L.tl.tl.tl.b0.c1
   refine (HD.out _ (L.getN (by simp)) (L.getN (by simp))).mono ?_
   rintro e w1 ⟨vq, vr, rfl, oq, or, be⟩
   clear c00 c01 c10 c11 c20 c21 c30 c31
   replace L:=((L.step be).n (isN_of_own (x:=q) oq rfl)).n (isN_of_own (x:=0) or rfl)
   clear oq or be HD
   obtain ⟨A1, c1, rfl⟩:=L.hn.form
   rw [len_zero] at *
   have c00:=L.b0.c0
   have c01:=L.b0.c1
   have c10:=L.tl.b0.c0
   have c11:=L.tl.b0.c1
   have c20:=L.tl.tl.b0.c0
   have c21:=L.tl.tl.b0.c1
   have c30:=L.tl.tl.tl.b0.c0
   have c31:=L.tl.tl.tl.b0.c1
   clear c00 c01 c10 c11 c20 c21 c30 c31
   have c00:=L.b0.c0
   have c01:=L.b0.c1
   have c10:=L.tl.b0.c0
   have c11:=L.tl.b0.c1
   have c20:=L.tl.tl.b0.c0
   have c21:=L.tl.tl.b0.c1
   have c30:=L.tl.tl.tl.b0.c0
   have c31:=L.tl.tl.tl.b0.c1
   go_wp2_with fail
   replace L:=L.drew
   go_region_held3 (fun w' => w'.cell? ⟨w.heap.size + 1, 0, none⟩ = some (.bool b2)) (first | (with_reducible exact L.tl.tl.b0.c0) | (have LP:=L.swap.put (by omega) (by simp) (ng (sg true q)) A8 (zl (sg true q)) c8; unfold put2 at LP; have kk:=LP.tl.tl.b0.c0; simpa using kk) | (have LP:=L.swap.put (by omega) (by simp) (ng (sg true q)) A8 (zl (sg true q)) c8; have LQ:=LP.swap.put (by omega) (by simp) (ng (sg b2 0)) A9 (zl (sg b2 0)) c9; unfold put2 at LQ; have kk:=LQ.tl.tl.b0.c0; simpa using kk)) (first | (go_at_call 208; (with_reducible refine (signed_any true q _ _ (L.getN (by simp)) (by omega)).mono ?_); rintro e w8 ⟨v8, rfl, iz, be⟩; replace L:=(L.step be).z iz; obtain ⟨A8, c8, rfl, _⟩:=iz.form; clear be iz) | (go_at_call 208; (with_reducible refine (signed_any b2 0 _ _ (L.getN (by simp)) (by rw [len_zero]; omega)).mono ?_); rintro e w9 ⟨v9, rfl, iz, be⟩; replace L:=(L.step be).z iz; obtain ⟨A9, c9, rfl, _⟩:=iz.form; clear be iz; have d0:=L.tl.b0.c0; have d1:=L.tl.b0.c1; have g0:=L.tl.b0.fr 0; have g1:=L.tl.b0.fr 1; have e0:=L.b0.c0; have e1:=L.b0.c1; have h0:=L.b0.fr 0; have h1:=L.b0.fr 1))
   clear c00 c01 c10 c11 c20 c21 c30 c31
   go_wp2_with fail
   have LP:=L.swap.put (by omega) (by simp) (ng (sg true q)) A8 (zl (sg true q)) c8
   have LQ:=LP.swap.put (by omega) (by simp) (ng (sg b2 0)) A9 (zl (sg b2 0)) c9
   have k0:=LQ.b0.c0
   have k1:=LQ.b0.c1
   have k2:=LQ.tl.b0.c0
   have k3:=LQ.tl.b0.c1
   unfold put2 at k0 k1 k2 k3
   exact bodyPost_ret (v:=.tuple #[.agg #[.bool (ng (sg true q)), .slice A8 (zl (sg true q)) c8], .agg #[.bool (ng (sg b2 0)), .slice A9 (zl (sg b2 0)) c9], .bool true]) (by simp [results, Tryz.results220, go_sem, k0, k1, k2, k3]) rfl ⟨_, _, rfl, HQ.out ▸ LQ.getZ (by simp), HR.out ▸ LQ.getZ (by simp), LQ.below⟩
  ·have HA:=floor_down hy0 hs hz
   have HQ:=Hd9 HA.1.symm
   have HR:=Hd9 HA.2.symm
   clear HA
   obtain ⟨q, hq⟩:=nm9 (x.natAbs / y.natAbs)
   obtain ⟨r, hr⟩:=nm9 (x.natAbs % y.natAbs)
   rw [hq, hr] at HD
   rw [hq] at HQ hlq hl1
   rw [hr] at HR hlr hmr hls hz
   clear hq hr
   have HB2:=fun v W h1 h2 => sub_any y.natAbs r (.slice B (zl y) d) v W h1 h2 (by omega)
   unfold RetSub at HB2
   simp only [if_pos (Nat.le_of_lt hmr), decide_eq_true (Nat.le_of_lt hmr)] at HB2
   have HB3:=Hd9 HB2
   clear HB2
   have hzr:=len_pos hz
   obtain ⟨qf, hqf⟩:=nm9 (x.fdiv y)
   obtain ⟨rf, hrf⟩:=nm9 (x.fmod y)
   rw [hqf] at HQ ⊢
   rw [hrf] at HR ⊢
   clear hqf hrf
   clear hs hy0
   generalize ng x = b at *
   generalize ng y = b2 at *
   go_enter Tryz.func220, Tryz.ntmps220
   go_wp2_with fail
   have L:=((((L0.box (w.heap.size) (by simp) b A (zl x) c).box (w.heap.size + 1) (by simp) b2 B (zl y) d).box (w.heap.size + 2) (by simp) false none 0 0).box (w.heap.size + 3) (by simp) false none 0 0)
   have c00:=L.b0.c0
   have c01:=L.b0.c1
   have c10:=L.tl.b0.c0
   have c11:=L.tl.b0.c1
   have c20:=L.tl.tl.b0.c0
   have c21:=L.tl.tl.b0.c1
   have c30:=L.tl.tl.tl.b0.c0
   have c31:=L.tl.tl.tl.b0.c1
   refine (HD.out _ (L.getN (by simp)) (L.getN (by simp))).mono ?_
   rintro e w1 ⟨vq, vr, rfl, oq, or, be⟩
   clear c00 c01 c10 c11 c20 c21 c30 c31
   replace L:=((L.step be).n (isN_of_own (x:=q) oq rfl)).n (isN_of_own (x:=r) or rfl)
   clear oq or be HD
   obtain ⟨A1, c1, rfl⟩:=L.hn.form
   have c00:=L.b0.c0
   have c01:=L.b0.c1
   have c10:=L.tl.b0.c0
   have c11:=L.tl.b0.c1
   have c20:=L.tl.tl.b0.c0
   have c21:=L.tl.tl.b0.c1
   have c30:=L.tl.tl.tl.b0.c0
   have c31:=L.tl.tl.tl.b0.c1
   go_wp2_with fail
   refine (of_any 1 _ (by omega)).mono ?_
   rintro e w2 ⟨v5, rfl, o⟩
   clear c00 c01 c10 c11 c20 c21 c30 c31
   replace L:=(L.step o.below).n o.isN
   clear o
   have c00:=L.b0.c0
   have c01:=L.b0.c1
   have c10:=L.tl.b0.c0
   have c11:=L.tl.b0.c1
   have c20:=L.tl.tl.b0.c0
   have c21:=L.tl.tl.b0.c1
   have c30:=L.tl.tl.tl.b0.c0
   have c31:=L.tl.tl.tl.b0.c1
   go_wp2_with fail
   refine (add_any q 1 _ _ _ (L.getN (by simp)) (L.getN (by simp)) (by omega) (by omega)).mono ?_
   rintro e w3 ⟨v6, rfl, o⟩
   clear c00 c01 c10 c11 c20 c21 c30 c31
   replace L:=(L.step o.below).n o.isN
   clear o
   have c00:=L.b0.c0
   have c01:=L.b0.c1
   have c10:=L.tl.b0.c0
   have c11:=L.tl.b0.c1
   have c20:=L.tl.tl.b0.c0
   have c21:=L.tl.tl.b0.c1
   have c30:=L.tl.tl.tl.b0.c0
   have c31:=L.tl.tl.tl.b0.c1
   go_wp2_with fail
   refine (HB3.out _ _ (L.getN (by simp)) (L.getN (by simp))).mono ?_
   rintro e w4 ⟨v7, rfl, o⟩
   clear c00 c01 c10 c11 c20 c21 c30 c31
   replace L:=(L.step o.below).n o.isN
   clear o
   have c00:=L.b0.c0
   have c01:=L.b0.c1
   have c10:=L.tl.b0.c0
   have c11:=L.tl.b0.c1
   have c20:=L.tl.tl.b0.c0
   have c21:=L.tl.tl.b0.c1
   have c30:=L.tl.tl.tl.b0.c0
   have c31:=L.tl.tl.tl.b0.c1
   go_wp2_with fail
   replace L:=L.drew
   go_region_held3 (fun w' => w'.cell? ⟨w.heap.size + 1, 0, none⟩ = some (.bool b2)) (first | (with_reducible exact L.tl.tl.b0.c0) | (have LP:=L.swap.put (by omega) (by simp) (ng (sg true (q + 1))) A8 (zl (sg true (q + 1))) c8; unfold put2 at LP; have kk:=LP.tl.tl.b0.c0; simpa using kk) | (have LP:=L.swap.put (by omega) (by simp) (ng (sg true (q + 1))) A8 (zl (sg true (q + 1))) c8; have LQ:=LP.swap.put (by omega) (by simp) (ng (sg b2 (y.natAbs - r))) A9 (zl (sg b2 (y.natAbs - r))) c9; unfold put2 at LQ; have kk:=LQ.tl.tl.b0.c0; simpa using kk)) (first | (go_at_call 208; (with_reducible refine (signed_any true (q + 1) _ _ (L.getN (by simp)) (by omega)).mono ?_); rintro e w8 ⟨v8, rfl, iz, be⟩; replace L:=(L.step be).z iz; obtain ⟨A8, c8, rfl, _⟩:=iz.form; clear be iz) | (go_at_call 208; (with_reducible refine (signed_any b2 (y.natAbs - r) _ _ (L.getN (by simp)) (by omega)).mono ?_); rintro e w9 ⟨v9, rfl, iz, be⟩; replace L:=(L.step be).z iz; obtain ⟨A9, c9, rfl, _⟩:=iz.form; clear be iz; have d0:=L.tl.b0.c0; have d1:=L.tl.b0.c1; have g0:=L.tl.b0.fr 0; have g1:=L.tl.b0.fr 1; have e0:=L.b0.c0; have e1:=L.b0.c1; have h0:=L.b0.fr 0; have h1:=L.b0.fr 1))
   clear c00 c01 c10 c11 c20 c21 c30 c31
   go_wp2_with fail
   have LP:=L.swap.put (by omega) (by simp) (ng (sg true (q + 1))) A8 (zl (sg true (q + 1))) c8
   have LQ:=LP.swap.put (by omega) (by simp) (ng (sg b2 (y.natAbs - r))) A9 (zl (sg b2 (y.natAbs - r))) c9
   have k0:=LQ.b0.c0
   have k1:=LQ.b0.c1
   have k2:=LQ.tl.b0.c0
   have k3:=LQ.tl.b0.c1
   unfold put2 at k0 k1 k2 k3
   exact bodyPost_ret (v:=.tuple #[.agg #[.bool (ng (sg true (q + 1))), .slice A8 (zl (sg true (q + 1))) c8], .agg #[.bool (ng (sg b2 (y.natAbs - r))), .slice A9 (zl (sg b2 (y.natAbs - r))) c9], .bool true]) (by simp [results, Tryz.results220, go_sem, k0, k1, k2, k3]) rfl ⟨_, _, rfl, HQ.out ▸ LQ.getZ (by simp), HR.out ▸ LQ.getZ (by simp), LQ.below⟩

end Go.Proofs.YtiddbhhhmeopeaaGreatDoor


/- Two new variables made in one statement, in whatever order. -/
namespace Go.Proofs.YtiddbhhhmeopeaaGreatDoor
set_option maxHeartbeats 64000000
open Go.RowKit
set_option linter.unusedVariables false
set_option linter.unusedSimpArgs false
set_option maxRecDepth 100000

section
variable {w0 w : World} {ns : List (Value × Nat)} {zs : List (Value × Int)} {bs : List (Nat × Bool × Value)}
end

section
variable {w0 w : World} {ns : List (Value × Nat)} {zs : List (Value × Int)} {bs : List (Nat × Bool × Value)} {g k : Nat} {b b' : Bool} {s s' : Value}
end
def Bs (w : World) (bs : List (Nat × Bool × Value)) : Prop:=∀ p ∈ bs, Box w p.1 p.2.1 p.2.2
section
variable {w : World} {bs : List (Nat × Bool × Value)}
theorem Bs.b0 {g : Nat} {b : Bool} {s : Value} (h : Bs w ((g, b, s) :: bs)) : Box w g b s:=h (g, b, s) (List.mem_cons_self ..)
end
theorem c_drew {w : World} {g j : Nat} {v : Value} (h : w.cell? ⟨g, j, none⟩ = some v) : w.drew.cell? ⟨g, j, none⟩ = some v:=h
theorem c_alloc {w : World} {g j : Nat} {v : Value} (o : Obj) (h : w.cell? ⟨g, j, none⟩ = some v) : (w.alloc o).cell? ⟨g, j, none⟩ = some v:=by
 have hlt : g < w.heap.size:=World.block_lt_of_cell? w ⟨g, j, none⟩ h
 rw [((Below.refl w.heap.size w).alloc (Nat.le_refl _) o).cell (p:=⟨g, j, none⟩) hlt]
 exact h
theorem c_set {w : World} {g j k i m : Nat} {v u : Value} (h : w.cell? ⟨g, j, none⟩ = some v) (hg : g < m) (hk : m ≤ k) : (w.setCell ⟨k, i, none⟩ u).cell? ⟨g, j, none⟩ = some v:=by
 have hne : g ≠ k:=by omega
 rw [World.cell?_of_block (w:=w) (a:=⟨g, j, none⟩) (heap_setCell_other w ⟨k, i, none⟩ g u hne)]
 exact h

section
variable {w0 w : World} {ns : List (Value × Nat)} {zs : List (Value × Int)} {z1 z2 : Int} {A1 A2 : Option Addr} {c1 c2 : Nat}
end
theorem zl_shl (x : Int) (k : Nat) : zl (x * 2 ^ k) ≤ zl x + k + 1:=by
 have h : (x * 2 ^ k).natAbs = x.natAbs * 2 ^ k:=by rw [Int.natAbs_mul, Int.natAbs_pow]; rfl
 unfold zl
 rw [h]
 exact len_shl _ _
theorem zl_shr (x : Int) (k : Nat) : zl (x / 2 ^ k) ≤ zl x + 1:=by
 rw [shr_floor]
 have h1:=len_add (x.natAbs / 2 ^ k) 1
 have h2 : len 1 ≤ 1:=len_le1 (by omega)
 have h3 : len (x.natAbs / 2 ^ k) ≤ len x.natAbs:=len_mono (Nat.div_le_self _ _)
 have h4 : zl x = len x.natAbs:=rfl
 split
 ·rename_i h
  rw [zl_sg]
  have h5 : 0 < len x.natAbs:=len_pos (by
   simp only [Bool.and_eq_true, decide_eq_true_eq] at h
   rcases Nat.eq_zero_or_pos x.natAbs with h0 | h0
   ·rw [h0] at h; simp at h
   ·exact h0)
  omega
 ·rw [zl_sg]; omega

end Go.Proofs.YtiddbhhhmeopeaaGreatDoor

