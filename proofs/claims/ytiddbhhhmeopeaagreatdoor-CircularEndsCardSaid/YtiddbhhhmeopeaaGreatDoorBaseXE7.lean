/- Base texts, joined: IvMath3, ArMath2, RefArA, ArRow, RefArB, RefArC, ArQ, ArSure. -/
import Derived.Test.YtiddbhhhmeopeaaGreatDoorBaseVE7
import Derived.Test.YtiddbhhhmeopeaaGreatDoorBaseME7
import Derived.Test.YtiddbhhhmeopeaaGreatDoorGrPAE7
import Derived.Test.YtiddbhhhmeopeaaGreatDoorRefGrAE7
import Derived.Test.YtiddbhhhmeopeaaGreatDoorBaseEE7
import Derived.Test.YtiddbhhhmeopeaaGreatDoorBaseWE7
import Derived.Test.YtiddbhhhmeopeaaGreatDoorRefGrBE7
import Derived.Deep.RegionHeld3
import Derived.Deep.DrawnRows
import Derived.Test.YtiddbhhhmeopeaaGreatDoorBaseDE7
import Derived.Test.YtiddbhhhmeopeaaGreatDoorBaseFE7
import Derived.Deep.Cut
import Derived.Deep.CutRange
/- Middles, widths and outward rounding, as fractions. -/
namespace Go.Proofs.YtiddbhhhmeopeaaGreatDoor
set_option maxHeartbeats 64000000
open Go.RowKit
set_option linter.unusedVariables false
set_option linter.unusedSimpArgs false
set_option maxRecDepth 100000
attribute [local go_sem ↓] Go.wp_at_zero Go.wp_at_succ

theorem mk_fits2 {m e : Int} (h : zl m ≤ 1900) (h1 : -60000 ≤ e) (h2 : e ≤ 4000) : mkR m e = 0:=by
 unfold mkR
 rw [if_neg (by omega)]
 by_cases h0 : m = 0
 ·rw [if_pos h0]
 ·rw [if_neg h0]
  have ht:=tz_le8 m.natAbs (by omega)
  have e1 : zl m = len m.natAbs:=rfl
  have hb : blen (oddM m).natAbs ≤ 65536:=by
   have:=blen_le_len (oddM m).natAbs
   have h3:=zl_odd m
   have e2 : zl (oddM m) = len (oddM m).natAbs:=rfl
   omega
  have ho : bitB (oddM m).natAbs 0 = true:=by
   obtain ⟨k, hk⟩:=tz_form (x:=m.natAbs) (by omega)
   have hd : m.natAbs / 2 ^ tz m.natAbs = 2 * k + 1:=by
    have:=Nat.mul_div_cancel_left (2 * k + 1) (Nat.pow_pos (n:=tz m.natAbs) (show 0 < 2 by omega))
    rwa [← hk] at this
   unfold bitB
   rw [oddM_abs, hd, Nat.pow_zero, Nat.div_one]
   exact decide_eq_true (by omega)
  have hf : fits8 (oddM m) (oddE m e) = true:=by
   unfold fits8 oddE
   rw [decide_eq_true hb, decide_eq_true (by omega), decide_eq_true (by omega), ho]
   rfl
  rw [hf]
  rfl
theorem dq_dbl (C E : Int) : dq C (E + -1) + dq C (E + -1) = dq C E:=by
 have h : dq (C + C) (E + -1) = dq C E:=dq_eq (F:=E + -1) (by rw [show E + -1 - (E + -1) = 0 by omega, show E - (E + -1) = 1 by omega]; show (C + C) * 1 = C * 2; omega) (by omega) (by omega)
 rw [← h, dq_scale, dq_scale (C + C), Rat.intCast_add, Rat.add_mul]
end Go.Proofs.YtiddbhhhmeopeaaGreatDoor


/- Enclosures: the floor of the lower end and the ceiling of the upper one. -/
namespace Go.Proofs.YtiddbhhhmeopeaaGreatDoor
set_option maxHeartbeats 64000000
open Go.RowKit
set_option linter.unusedVariables false
set_option linter.unusedSimpArgs false
set_option maxRecDepth 100000
attribute [local go_sem ↓] Go.wp_at_zero Go.wp_at_succ
def enM (q : Rat) (k : Int) : Int:=mkM (cutQ q k) (-k)
def enE (q : Rat) (k : Int) : Int:=mkE (cutQ q k) (-k)
def upM (q : Rat) (k : Int) : Int:=mkM (-(cutQ (-q) k)) (-k)
def upE (q : Rat) (k : Int) : Int:=mkE (-(cutQ (-q) k)) (-k)
def enF (q : Rat) (k : Int) : Prop:=mkR (cutQ q k) (-k) = 0
def upF (q : Rat) (k : Int) : Prop:=mkR (-(cutQ (-q) k)) (-k) = 0
theorem en_lo {q : Rat} {k : Int} (h : enF q k) : dq (enM q k) (enE q k) ≤ q:=by
 unfold enM enE
 rw [dq_mk h]
 exact cut_lo q k
theorem up_hi {q : Rat} {k : Int} (h : upF q k) : q ≤ dq (upM q k) (upE q k):=by
 unfold upM upE
 rw [dq_mk h, dq_neg, Rat.le_neg_iff]
 exact cut_lo (-q) k
theorem cut_mono {q q' : Rat} {k k' : Int} (hk : k ≤ k') (hq : q ≤ q') : dq (cutQ q k) (-k) ≤ dq (cutQ q' k') (-k'):=by
 have e1 : dq (cutQ q k) (-k) = dq (cutQ q k * 2 ^ (k' - k).toNat) (-k'):=dq_eq (F := -k') (by rw [show -k' - -k' = 0 by omega, show -k - -k' = k' - k by omega]; simp) (by omega) (by omega)
 have h1:=Rat.le_trans (cut_lo q k) hq
 rw [e1] at h1 ⊢
 have h2:=rlt_le h1 (cut_hi q' k')
 rw [← dq_succ, dq_scale, dq_scale (cutQ q' k' + 1)] at h2
 have h3:=Rat.intCast_lt_intCast.1 (Rat.lt_of_mul_lt_mul_right h2 (Rat.le_of_lt (dq_pos (-k'))))
 rw [dq_le_iff]
 omega
theorem blen_odd {m : Int} (h : m ≠ 0) : blen m.natAbs = blen (oddM m).natAbs + tz m.natAbs:=by
 have h1:=odd_form m
 have h2 : m.natAbs = 0 + 2 ^ tz m.natAbs * (oddM m).natAbs:=by
  have:=congrArg Int.natAbs h1
  rw [abs_shl] at this
  rw [Nat.zero_add, Nat.mul_comm]
  exact this.symm
 have h3:=blen_high (lo:=0) (top:=(oddM m).natAbs) (k:=tz m.natAbs) (Nat.pow_pos (by omega)) (oddM_pos h)
 rw [← h2] at h3
 omega
theorem top_mk {m e : Int} (h : mkR m e = 0) (hm : m ≠ 0) : topZ (mkM m e) (mkE m e) = (blen m.natAbs : Int) + e:=by
 have h1 : mkM m e = oddM m:=by unfold mkM; rw [if_pos h]
 have h2 : mkE m e = oddE m e:=by unfold mkE; rw [if_neg hm, if_pos h]
 have h3:=oddM_pos hm
 rw [h1, h2]
 unfold topZ oddE
 rw [if_neg (by omega), blen_odd hm]
 omega
theorem mk_small {C : Int} {k : Int} {z : Nat} (hz : zl C ≤ z + (k.toNat / 32 + 1)) (h60 : z ≤ 60) (hk : 0 ≤ k ∧ k ≤ 4096) : mkR C (-k) = 0 ∧ topZ (mkM C (-k)) (mkE C (-k)) ≤ 2048 ∧ onB (mkM C (-k)) (mkE C (-k)) 8192 = true:=by
 have hr : mkR C (-k) = 0:=mk_fits2 (by omega) (by omega) (by omega)
 refine ⟨hr, ?_, ?_⟩
 ·by_cases h0 : C = 0
  ·subst h0
   have h1 : mkM 0 (-k) = 0:=by unfold mkM; rw [if_pos hr, oddM_zero]
   rw [h1]
   unfold topZ
   rw [if_pos rfl]
   omega
  ·rw [top_mk hr h0]
   have h1:=blen_le_len C.natAbs
   have e1 : zl C = len C.natAbs:=rfl
   omega
 ·unfold onB
  rw [show permB 8192 = true from by decide, Bool.true_and]
  by_cases h0 : C = 0
  ·have h1 : mkM C (-k) = 0:=by subst h0; unfold mkM; rw [if_pos hr, oddM_zero]
   rw [h1, decide_eq_true rfl, Bool.true_or]
  ·have h2 : mkE C (-k) = oddE C (-k):=by unfold mkE; rw [if_neg h0, if_pos hr]
   rw [h2]
   unfold oddE
   rw [decide_eq_true (show -8192 ≤ -k + (tz C.natAbs : Int) by omega), Bool.or_true]


end Go.Proofs.YtiddbhhhmeopeaaGreatDoor


/- The reference's Work, Small, ends. -/
namespace Go.Proofs.YtiddbhhhmeopeaaGreatDoor
set_option maxHeartbeats 64000000
open Go.RowKit
set_option linter.unusedVariables false
set_option linter.unusedSimpArgs false
set_option maxRecDepth 100000
attribute [local go_sem ↓] Go.wp_at_zero Go.wp_at_succ
def workB (k : Int) : Bool:=decide (0 ≤ k) && decide (k ≤ 4096)
def smallB (m e n f : Int) : Bool:=decide (dcm m e n f ≤ 0) && (decide (topZ m e ≤ 2048) && (decide (topZ n f ≤ 2048) && (onB m e 8192 && onB n f 8192)))

end Go.Proofs.YtiddbhhhmeopeaaGreatDoor


/- Rows of fractions; two new variables with fractions, and where they lie. -/
namespace Go.Proofs.YtiddbhhhmeopeaaGreatDoor
set_option maxHeartbeats 64000000
open Go.RowKit
set_option linter.unusedVariables false
set_option linter.unusedSimpArgs false
set_option maxRecDepth 100000
attribute [local go_sem ↓] Go.wp_at_zero Go.wp_at_succ
def RowR (w : World) (v : Value) (l : List (Int × Nat)) : Prop:=∃ g c, v = .slice (some ⟨g, 0, none⟩) l.length c ∧ g < w.heap.size ∧ ∀ (j : Nat) (p : Int × Nat), l[j]? = some p → ∃ A c B k, w.cell? ⟨g, 3 * j, none⟩ = some (.bool (ng p.1)) ∧ w.cell? ⟨g, 3 * j + 1, none⟩ = some (.slice A (zl p.1) c) ∧ w.cell? ⟨g, 3 * j + 2, none⟩ = some (.slice B (len p.2) k) ∧ IsP w (.agg #[.bool (ng p.1), .slice A (zl p.1) c, .slice B (len p.2) k]) p.1 p.2
theorem RowR.mono {w w' : World} {v : Value} {l : List (Int × Nat)} (h : RowR w v l) (hb : Below w.heap.size w w') : RowR w' v l:=by
 obtain ⟨g, c, r, hg, h⟩:=h
 refine ⟨g, c, r, Nat.lt_of_lt_of_le hg hb.size, fun j p hp => ?_⟩
 obtain ⟨A, c, B, k, h1, h2, h3, h4⟩:=h j p hp
 exact ⟨A, c, B, k, (hb.cell (p:=⟨g, 3 * j, none⟩) hg).trans h1, (hb.cell (p:=⟨g, 3 * j + 1, none⟩) hg).trans h2, (hb.cell (p:=⟨g, 3 * j + 2, none⟩) hg).trans h3, h4.mono hb⟩
def qOf (p : Int × Nat) : Rat:=Rat.divInt p.1 (p.2 : Int)
section
variable {w0 w : World} {ns : List (Value × Nat)} {zs : List (Value × Int)} {qs : List (Value × Int × Nat)} {a1 a2 : Int} {d1 d2 : Nat} {A1 A2 B1 B2 : Option Addr} {c1 c2 k1 k2 : Nat}
end
def enB (lo hi : Rat) (k : Int) : Bool:=smallB (enM lo k) (enE lo k) (upM hi k) (upE hi k)
def RetEn (w : World) (lo hi : Rat) (k : Int) : Ending → World → Prop:=if workB k then (if mkR (cutQ lo k) (-k) = 0 ∧ mkR (-(cutQ (-hi) k)) (-k) = 0 ∧ enB lo hi k = true then RetIE w (enM lo k) (enE lo k) (upM hi k) (upE hi k) 0 else RetIE w 0 0 0 0 3) else RetIE w 0 0 0 0 1
end Go.Proofs.YtiddbhhhmeopeaaGreatDoor


/- The reference's Enclose: over any row of fractions. -/
namespace Go.Proofs.YtiddbhhhmeopeaaGreatDoor
set_option maxHeartbeats 64000000
open Go.RowKit
set_option linter.unusedVariables false
set_option linter.unusedSimpArgs false
set_option maxRecDepth 100000
attribute [local go_sem ↓] Go.wp_at_zero Go.wp_at_succ

def LoopF (l : List (Int × Nat)) (t : Nat) (a1 : Int) (d1 : Nat) (a2 : Int) (d2 : Nat) : Prop:=(a1, d1) ∈ l ∧ (a2, d2) ∈ l ∧ ∀ (j : Nat) (p : Int × Nat), j < t → l[j]? = some p → qOf (a1, d1) ≤ qOf p ∧ qOf p ≤ qOf (a2, d2)
theorem LoopF.all {l : List (Int × Nat)} {a1 a2 : Int} {d1 d2 : Nat} {n : Nat} (hn : l.length = n) (h : LoopF l n a1 d1 a2 d2) : (∀ q ∈ l, qOf (a1, d1) ≤ qOf q) ∧ ∀ q ∈ l, qOf q ≤ qOf (a2, d2):=by
 constructor <;> intro q hq <;> obtain ⟨j, hj, e⟩:=List.getElem_of_mem hq
 ·exact (h.2.2 j q (by omega) (by rw [← e]; exact List.getElem?_eq_getElem hj)).1
 ·exact (h.2.2 j q (by omega) (by rw [← e]; exact List.getElem?_eq_getElem hj)).2
theorem Lq.pick {w0 w : World} {ns : List (Value × Nat)} {zs : List (Value × Int)} {qs : List (Value × Int × Nat)} {bs : List (Nat × TypeId × Array Value)} (h : Lq w0 w ns zs qs bs) (l : List (Nat × TypeId × Array Value)) (hl : ∀ x ∈ l, x ∈ bs) : Lq w0 w ns zs qs l:=⟨h.below, h.ns, h.zs, h.qs, fun x hx => h.bs x (hl x hx)⟩
theorem work_perm {k : Int} (h : workB k = true) : permB k = true ∧ 0 ≤ k ∧ k ≤ 4096:=by
 unfold workB at h
 rw [Bool.and_eq_true, decide_eq_true_iff, decide_eq_true_iff] at h
 unfold permB
 rw [decide_eq_true (show -2048 ≤ k by omega), decide_eq_true (show k ≤ 8192 by omega)]
 exact ⟨rfl, h⟩

end Go.Proofs.YtiddbhhhmeopeaaGreatDoor


/- The reference's Const. -/
namespace Go.Proofs.YtiddbhhhmeopeaaGreatDoor
set_option maxHeartbeats 64000000
open Go.RowKit
set_option linter.unusedVariables false
set_option linter.unusedSimpArgs false
set_option maxRecDepth 100000
attribute [local go_sem ↓] Go.wp_at_zero Go.wp_at_succ

theorem RetEn.form {W w' : World} {en : Ending} {lo hi : Rat} {k : Int} (h : RetEn W lo hi k en w') : ∃ v er m e n f, en = .returned (.tuple #[v, .int .i64 er]) ∧ IsI w' v m e n f ∧ Below W.heap.size W w' ∧ ∀ (w0 w2 : World) (u : Value), IsI w2 u m e n f → Below w0.heap.size w0 w2 → RetEn w0 lo hi k (.returned (.tuple #[u, .int .i64 er])) w2:=by
 unfold RetEn at h ⊢
 split at h
 ·rename_i h1
  split at h
  ·rename_i h2
   obtain ⟨v, r, hi, hb⟩:=h
   exact ⟨v, 0, _, _, _, _, r, hi, hb, fun w0 w2 u h3 h4 => by rw [if_pos h1, if_pos h2]; exact ⟨u, rfl, h3, h4⟩⟩
  ·rename_i h2
   obtain ⟨v, r, hi, hb⟩:=h
   exact ⟨v, 3, _, _, _, _, r, hi, hb, fun w0 w2 u h3 h4 => by rw [if_pos h1, if_neg h2]; exact ⟨u, rfl, h3, h4⟩⟩
 ·rename_i h1
  obtain ⟨v, r, hi, hb⟩:=h
  exact ⟨v, 1, _, _, _, _, r, hi, hb, fun w0 w2 u h3 h4 => by rw [if_neg h1]; exact ⟨u, rfl, h3, h4⟩⟩
end Go.Proofs.YtiddbhhhmeopeaaGreatDoor


/- The images of the operations: which of two or four fractions are the least and the greatest. -/
namespace Go.Proofs.YtiddbhhhmeopeaaGreatDoor
set_option maxHeartbeats 64000000
open Go.RowKit
set_option linter.unusedVariables false
set_option linter.unusedSimpArgs false
set_option maxRecDepth 100000
attribute [local go_sem ↓] Go.wp_at_zero Go.wp_at_succ

theorem min4_or (a b c d : Rat) : min4 a b c d = a ∨ min4 a b c d = b ∨ min4 a b c d = c ∨ min4 a b c d = d:=by
 unfold min4
 rcases rmin_or (rmin a b) (rmin c d) with h | h <;> rw [h]
 ·rcases rmin_or a b with h | h <;> rw [h] <;> simp
 ·rcases rmin_or c d with h | h <;> rw [h] <;> simp
theorem max4_or (a b c d : Rat) : max4 a b c d = a ∨ max4 a b c d = b ∨ max4 a b c d = c ∨ max4 a b c d = d:=by
 unfold max4
 rcases rmax_or (rmax a b) (rmax c d) with h | h <;> rw [h]
 ·rcases rmax_or a b with h | h <;> rw [h] <;> simp
 ·rcases rmax_or c d with h | h <;> rw [h] <;> simp
theorem RetEn.ok {lo hi : Rat} {k : Int} (hk : workB k = true) {z : Nat} (h1 : zl (cutQ lo k) ≤ z + (k.toNat / 32 + 1)) (h2 : zl (-(cutQ (-hi) k)) ≤ z + (k.toNat / 32 + 1)) (hz : z ≤ 60) (hle : lo ≤ hi) : ∀ W, RetEn W lo hi k = RetIE W (enM lo k) (enE lo k) (upM hi k) (upE hi k) 0:=fun W => by
 obtain ⟨_, p1, p2⟩:=work_perm hk
 obtain ⟨a1, a2, a3⟩:=mk_small h1 hz ⟨p1, p2⟩
 obtain ⟨b1, b2, b3⟩:=mk_small h2 hz ⟨p1, p2⟩
 have hsm : enB lo hi k = true:=by
  unfold enB smallB
  rw [Bool.and_eq_true, Bool.and_eq_true, Bool.and_eq_true, Bool.and_eq_true, decide_eq_true_iff, decide_eq_true_iff, decide_eq_true_iff, dcm_le]
  exact ⟨Rat.le_trans (Rat.le_trans (en_lo a1) hle) (up_hi b1), a2, b2, a3, b3⟩
 unfold RetEn
 rw [if_pos hk, if_pos ⟨a1, b1, hsm⟩]


end Go.Proofs.YtiddbhhhmeopeaaGreatDoor


/- Short ends of the image and a permitted precision: there is a result, and it contains the image. -/
namespace Go.Proofs.YtiddbhhhmeopeaaGreatDoor
set_option maxHeartbeats 64000000
open Go.RowKit
set_option linter.unusedVariables false
set_option linter.unusedSimpArgs false
set_option maxRecDepth 100000
attribute [local go_sem ↓] Go.wp_at_zero Go.wp_at_succ

end Go.Proofs.YtiddbhhhmeopeaaGreatDoor

