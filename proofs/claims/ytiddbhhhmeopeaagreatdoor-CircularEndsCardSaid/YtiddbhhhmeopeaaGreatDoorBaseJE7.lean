/- Base texts, joined: RefIntA, RefIntB, RefIntC, MillInt. -/
import Derived.Test.YtiddbhhhmeopeaaGreatDoorBaseIE7
import Derived.Test.YtiddbhhhmeopeaaGreatDoorBaseRE7
import Derived.Deep.RegionHeld3
import Derived.Deep.DrawnRows
import Derived.Test.YtiddbhhhmeopeaaGreatDoorBasePE7
/- Walks: the reference's Valid, Nat, Of, Int, Sign, Same, Neg, Add. -/
namespace Go.Proofs.YtiddbhhhmeopeaaGreatDoor
set_option maxHeartbeats 64000000
open Go.RowKit
set_option linter.unusedVariables false
set_option linter.unusedSimpArgs false
set_option maxRecDepth 100000
attribute [local go_sem ↓] Go.wp_at_zero Go.wp_at_succ

theorem rznat_any (b : Bool) (l : List Nat) (A : Option Addr) (n c : Nat) (w : World) (h : Sl w A n c l) (hn : n ≤ 1099511627776) :
  Calls Tryz.prog 66 #[.bool b, .slice A n c] w (RetZ w (sg b (val l))):=by
 have hlv : len (val l) ≤ n:=Nat.le_trans (len_val_le h.small) (by rw [h.len]; exact Nat.le_refl _)
 have HT:=Hd9 (fun W (hW : Below w.heap.size w W) => rtrim_any l A n c W (h.mono hW) (by omega))
 have HD:=Hd9 (dig_val h.small)
 generalize val l = x at *
 clear h
 rcases Nat.eq_zero_or_pos x with rfl | hx
 ·have e : ∀ b, sg b 0 = 0:=fun b => by cases b <;> rfl
  rw [e]
  clear e
  cases b
  ·skip
   go_enter Tryz.func66, Tryz.ntmps66
   go_wp2_with fail
   have L:=((Lz.mk0 w).box (w.heap.size) (by simp) false none 0 0)
   have hT:=HT.out _ L.below
   rw [← HD.out] at hT
   have HT2:=Hd9 hT
   clear hT HT
   refine (HT2.out).mono ?_
   rintro e w1 ⟨v1, rfl, o⟩
   replace L:=(L.step o.below).n o.isN
   clear o
   clear HT2
   obtain ⟨A1, c1, rfl⟩:=L.hn.form
   rw [len_zero] at *
   have c00:=L.b0.c0
   have c01:=L.b0.c1
   have f00:=L.b0.fr 0
   have f01:=L.b0.fr 1
   go_wp2_with fail
   have LP:=L.put (by omega) (by simp) (false) (A1) (0) (c1)
   have d0:=LP.b0.c0
   have d1:=LP.b0.c1
   unfold put2 at d0 d1
   exact bodyPost_ret (v:=.agg #[.bool (false), .slice (A1) (0) (c1)]) (by simp [results, Tryz.results66, go_sem, d0, d1]) rfl (retZ_of (z:=0) LP.hn LP.below _ rfl rfl)
  ·skip
   go_enter Tryz.func66, Tryz.ntmps66
   go_wp2_with fail
   have L:=((Lz.mk0 w).box (w.heap.size) (by simp) false none 0 0)
   have hT:=HT.out _ L.below
   rw [← HD.out] at hT
   have HT2:=Hd9 hT
   clear hT HT
   refine (HT2.out).mono ?_
   rintro e w1 ⟨v1, rfl, o⟩
   replace L:=(L.step o.below).n o.isN
   clear o
   clear HT2
   obtain ⟨A1, c1, rfl⟩:=L.hn.form
   rw [len_zero] at *
   have c00:=L.b0.c0
   have c01:=L.b0.c1
   have f00:=L.b0.fr 0
   have f01:=L.b0.fr 1
   go_wp2_with fail
   have LP:=L.put (by omega) (by simp) (false) (A1) (0) (c1)
   have d0:=LP.b0.c0
   have d1:=LP.b0.c1
   unfold put2 at d0 d1
   exact bodyPost_ret (v:=.agg #[.bool (false), .slice (A1) (0) (c1)]) (by simp [results, Tryz.results66, go_sem, d0, d1]) rfl (retZ_of (z:=0) LP.hn LP.below _ rfl rfl)
 ·have hp:=len_pos hx
  have e1 : ng (sg true x) = true:=by rw [sg_ng, decide_eq_true hx]; rfl
  have e2 : ng (sg false x) = false:=by rw [sg_ng]; rfl
  have E1:=Hd9 e1
  have E2:=Hd9 e2
  clear e1 e2
  cases b
  ·skip
   go_enter Tryz.func66, Tryz.ntmps66
   go_wp2_with fail
   have L:=((Lz.mk0 w).box (w.heap.size) (by simp) false none 0 0)
   have hT:=HT.out _ L.below
   rw [← HD.out] at hT
   have HT2:=Hd9 hT
   clear hT HT
   refine (HT2.out).mono ?_
   rintro e w1 ⟨v1, rfl, o⟩
   replace L:=(L.step o.below).n o.isN
   clear o
   clear HT2
   obtain ⟨A1, c1, rfl⟩:=L.hn.form
   have c00:=L.b0.c0
   have c01:=L.b0.c1
   have f00:=L.b0.fr 0
   have f01:=L.b0.fr 1
   go_wp2_with fail
   have LP:=L.put (by omega) (by simp) (false) (A1) ((len x)) (c1)
   have d0:=LP.b0.c0
   have d1:=LP.b0.c1
   unfold put2 at d0 d1
   exact bodyPost_ret (v:=.agg #[.bool (false), .slice (A1) ((len x)) (c1)]) (by simp [results, Tryz.results66, go_sem, d0, d1]) rfl (retZ_of (by rw [sg_abs]; exact LP.hn) LP.below _ E2.out.symm rfl)
  ·skip
   go_enter Tryz.func66, Tryz.ntmps66
   go_wp2_with fail
   have L:=((Lz.mk0 w).box (w.heap.size) (by simp) false none 0 0)
   have hT:=HT.out _ L.below
   rw [← HD.out] at hT
   have HT2:=Hd9 hT
   clear hT HT
   refine (HT2.out).mono ?_
   rintro e w1 ⟨v1, rfl, o⟩
   replace L:=(L.step o.below).n o.isN
   clear o
   clear HT2
   obtain ⟨A1, c1, rfl⟩:=L.hn.form
   have c00:=L.b0.c0
   have c01:=L.b0.c1
   have f00:=L.b0.fr 0
   have f01:=L.b0.fr 1
   go_wp2_with fail
   have LP:=L.put (by omega) (by simp) (true) (A1) ((len x)) (c1)
   have d0:=LP.b0.c0
   have d1:=LP.b0.c1
   unfold put2 at d0 d1
   exact bodyPost_ret (v:=.agg #[.bool (true), .slice (A1) ((len x)) (c1)]) (by simp [results, Tryz.results66, go_sem, d0, d1]) rfl (retZ_of (by rw [sg_abs]; exact LP.hn) LP.below _ E1.out.symm rfl)

theorem rznatN_any (b : Bool) (x : Nat) (s : Value) (w : World) (hs : IsN w s x) (hl : len x ≤ 1099511627776) :
  Calls Tryz.prog 66 #[.bool b, s] w (RetZ w (sg b x)):=by
 obtain ⟨A, n, c, rfl, hs⟩:=hs
 have:=hs.len
 rw [length_dig] at this
 have:=rznat_any b _ A n c w hs (by omega)
 rwa [val_dig] at this

theorem rzvalid_any (b : Bool) (l : List Nat) (A : Option Addr) (n c : Nat) (w : World) (h : Sl w A n c l) :
  Calls Tryz.prog 138 #[.agg #[.bool b, .slice A n c]] w (RetB w (sval b l)):=by
 have hn:=h.len
 have H:=Hd9 (fun W (hW : Below w.heap.size w W) => rvalid_any l A n c W (h.mono hW))
 unfold sval
 rw [hn]
 clear h hn
 generalize isTrim l = it at *
 rcases Nat.eq_zero_or_pos n with rfl | hn
 ·skip
  cases b
  ·cases it
   ·have B:=(Below.refl w.heap.size w).alloc (Nat.le_refl _) (.cells #[.bool false, .slice A 0 c] 24)
    go_enter Tryz.func138, Tryz.ntmps138
    go_wp2_with fail
    refine (H.out _ B).mono ?_
    rintro e w' ⟨rfl, rfl⟩
    go_wp2_with fail
    go_ret
    exact ⟨rfl, B⟩
   ·have B:=(Below.refl w.heap.size w).alloc (Nat.le_refl _) (.cells #[.bool false, .slice A 0 c] 24)
    go_enter Tryz.func138, Tryz.ntmps138
    go_wp2_with fail
    refine (H.out _ B).mono ?_
    rintro e w' ⟨rfl, rfl⟩
    go_wp2_with fail
    go_ret
    exact ⟨rfl, B⟩
  ·cases it
   ·have B:=(Below.refl w.heap.size w).alloc (Nat.le_refl _) (.cells #[.bool true, .slice A 0 c] 24)
    go_enter Tryz.func138, Tryz.ntmps138
    go_wp2_with fail
    refine (H.out _ B).mono ?_
    rintro e w' ⟨rfl, rfl⟩
    go_wp2_with fail
    go_ret
    exact ⟨rfl, B⟩
   ·have B:=(Below.refl w.heap.size w).alloc (Nat.le_refl _) (.cells #[.bool true, .slice A 0 c] 24)
    go_enter Tryz.func138, Tryz.ntmps138
    go_wp2_with fail
    refine (H.out _ B).mono ?_
    rintro e w' ⟨rfl, rfl⟩
    go_wp2_with fail
    go_ret
    exact ⟨rfl, B⟩
 ·have hz : ((n : Int) == 0) = false:=by rw [beq_eq_false_iff_ne]; omega
  have HD:=Hd9 (show decide (0 < n) = true from decide_eq_true hn)
  cases b
  ·cases it
   ·have B:=(Below.refl w.heap.size w).alloc (Nat.le_refl _) (.cells #[.bool false, .slice A n c] 24)
    go_enter Tryz.func138, Tryz.ntmps138
    go_wp2_with fail
    refine (H.out _ B).mono ?_
    rintro e w' ⟨rfl, rfl⟩
    go_wp2_with fail
    go_ret
    exact ⟨rfl, B⟩
   ·have B:=(Below.refl w.heap.size w).alloc (Nat.le_refl _) (.cells #[.bool false, .slice A n c] 24)
    go_enter Tryz.func138, Tryz.ntmps138
    go_wp2_with fail
    refine (H.out _ B).mono ?_
    rintro e w' ⟨rfl, rfl⟩
    go_wp2_with fail
    go_ret
    exact ⟨rfl, B⟩
  ·cases it
   ·have B:=(Below.refl w.heap.size w).alloc (Nat.le_refl _) (.cells #[.bool true, .slice A n c] 24)
    go_enter Tryz.func138, Tryz.ntmps138
    go_wp2_with fail
    refine (H.out _ B).mono ?_
    rintro e w' ⟨rfl, rfl⟩
    go_wp2_with fail
    go_ret
    exact ⟨rfl, B⟩
   ·have B:=(Below.refl w.heap.size w).alloc (Nat.le_refl _) (.cells #[.bool true, .slice A n c] 24)
    go_enter Tryz.func138, Tryz.ntmps138
    go_wp2_with fail
    refine (H.out _ B).mono ?_
    rintro e w' ⟨rfl, rfl⟩
    go_wp2_with fail
    go_ret
    exact ⟨by rw [HD.out]; rfl, B⟩

theorem rzof_any (n : Int) (w : World) (h1 : -9223372036854775808 ≤ n) (h2 : n ≤ 9223372036854775807) :
  Calls Tryz.prog 60 #[.int .i64 n] w (RetZ w n):=by
 rcases Int.lt_or_le n 0 with hneg | hpos
 ·obtain ⟨k, rfl⟩ : ∃ k : Nat, n = -(k : Int):=⟨n.natAbs, by omega⟩
  have hk : 0 < k:=by omega
  have hk2 : k ≤ 9223372036854775808:=by omega
  obtain ⟨u, hu⟩ : ∃ u : Nat, IntKind.u64.wrap (-(k : Int)) = (u : Int):=⟨(IntKind.u64.wrap (-(k : Int))).toNat, by rw [IntKind.wrap_u64]; omega⟩
  have hu2 : IntKind.u64.wrap (-(u : Int)) = (k : Int):=by rw [IntKind.wrap_u64] at *; omega
  have HK:=Hd9 (show sg true k = -(k : Int) from rfl)
  have hlk : len k ≤ 2:=len_le2 (by omega)
  have HO:=Hd9 (fun W => rof_any k W (by omega))
  have hlt : -(k : Int) < 0:=by omega
  go_enter Tryz.func60, Tryz.ntmps60
  go_wp2_with fail
  have L:=((Lz.mk0 w).box (w.heap.size) (by simp) false none 0 0)
  refine (HO.out _).mono ?_
  rintro e w1 ⟨v1, rfl, o⟩
  replace L:=(L.step o.below).n o.isN
  clear o
  have c00:=L.b0.c0
  have c01:=L.b0.c1
  have f00:=L.b0.fr 0
  have f01:=L.b0.fr 1
  go_wp2_with fail
  refine (rznatN_any true k _ _ L.hn (by omega)).mono ?_
  rintro e w2 ⟨v3, rfl, iz, be⟩
  clear c00 c01 f00 f01
  replace L:=(L.step be).z iz
  obtain ⟨A3, c3, rfl, _⟩:=iz.form
  clear be iz
  have c00:=L.b0.c0
  have c01:=L.b0.c1
  have f00:=L.b0.fr 0
  have f01:=L.b0.fr 1
  go_wp2_with fail
  have LP:=L.put (by omega) (by simp) (ng (sg true k)) (A3) (zl (sg true k)) (c3)
  have d0:=LP.b0.c0
  have d1:=LP.b0.c1
  unfold put2 at d0 d1
  exact bodyPost_ret (v:=.agg #[.bool (ng (sg true k)), .slice (A3) (zl (sg true k)) (c3)]) (by simp [results, Tryz.results60, go_sem, d0, d1]) rfl ⟨_, rfl, HK.out ▸ LP.hz, LP.below⟩
 ·obtain ⟨k, rfl⟩ : ∃ k : Nat, n = (k : Int):=⟨n.natAbs, by omega⟩
  have hu : IntKind.u64.wrap (k : Int) = (k : Int):=by rw [IntKind.wrap_u64]; omega
  have HK:=Hd9 (show sg false k = (k : Int) from rfl)
  have hlk : len k ≤ 2:=len_le2 (by omega)
  have HO:=Hd9 (fun W => rof_any k W (by omega))
  go_enter Tryz.func60, Tryz.ntmps60
  go_wp2_with fail
  have L:=((Lz.mk0 w).box (w.heap.size) (by simp) false none 0 0)
  refine (HO.out _).mono ?_
  rintro e w1 ⟨v1, rfl, o⟩
  replace L:=(L.step o.below).n o.isN
  clear o
  have c00:=L.b0.c0
  have c01:=L.b0.c1
  have f00:=L.b0.fr 0
  have f01:=L.b0.fr 1
  go_wp2_with fail
  refine (rznatN_any false k _ _ L.hn (by omega)).mono ?_
  rintro e w2 ⟨v3, rfl, iz, be⟩
  clear c00 c01 f00 f01
  replace L:=(L.step be).z iz
  obtain ⟨A3, c3, rfl, _⟩:=iz.form
  clear be iz
  have c00:=L.b0.c0
  have c01:=L.b0.c1
  have f00:=L.b0.fr 0
  have f01:=L.b0.fr 1
  go_wp2_with fail
  have LP:=L.put (by omega) (by simp) (ng (sg false k)) (A3) (zl (sg false k)) (c3)
  have d0:=LP.b0.c0
  have d1:=LP.b0.c1
  unfold put2 at d0 d1
  exact bodyPost_ret (v:=.agg #[.bool (ng (sg false k)), .slice (A3) (zl (sg false k)) (c3)]) (by simp [results, Tryz.results60, go_sem, d0, d1]) rfl ⟨_, rfl, HK.out ▸ LP.hz, LP.below⟩

theorem rzsign_any (x : Int) (vx : Value) (w : World) (hx : IsZ w vx x) (lx : zl x ≤ 274877906944) :
  Calls Tryz.prog 177 #[vx] w (RetI w (cmpI x 0)):=by
 obtain ⟨A, c, rfl, ix⟩:=hx.form
 have hlx:=abs_le lx
 have L0:=(((Lz.mk0 w).n ix).z hx)
 clear hx ix
 rcases Int.lt_trichotomy x 0 with h | h | h
 ·have HC:=Hd9 (cmpI_lt h)
  rw [ng_yes h] at L0 ⊢
  have hbl:=zl_pos (z:=x) (by omega)
  clear h
  go_enter Tryz.func177, Tryz.ntmps177
  go_wp2_with fail
  have L:=(L0.box (w.heap.size) (by simp) true A (zl x) c)
  go_ret
  exact ⟨by rw [HC.out] <;> rfl, L.below⟩
 ·subst h
  have HC:=Hd9 (cmpI_eq 0)
  rw [zl_zero, show ng 0 = false from rfl] at L0 ⊢
  skip
  go_enter Tryz.func177, Tryz.ntmps177
  go_wp2_with fail
  have L:=(L0.box (w.heap.size) (by simp) false A 0 c)
  go_ret
  exact ⟨by rw [HC.out] <;> rfl, L.below⟩
 ·have HC:=Hd9 (cmpI_gt h)
  rw [ng_no (by omega)] at L0 ⊢
  have hbl:=zl_pos (z:=x) (by omega)
  clear h
  go_enter Tryz.func177, Tryz.ntmps177
  go_wp2_with fail
  have L:=(L0.box (w.heap.size) (by simp) false A (zl x) c)
  go_ret
  exact ⟨by rw [HC.out] <;> rfl, L.below⟩

end Go.Proofs.YtiddbhhhmeopeaaGreatDoor


/- Walks: the reference's Neg, Add, Sub, Mul, Cmp. -/
namespace Go.Proofs.YtiddbhhhmeopeaaGreatDoor
set_option maxHeartbeats 64000000
open Go.RowKit
set_option linter.unusedVariables false
set_option linter.unusedSimpArgs false
set_option maxRecDepth 100000
attribute [local go_sem ↓] Go.wp_at_zero Go.wp_at_succ

theorem rzneg_any (x : Int) (vx : Value) (w : World) (hx : IsZ w vx x) (lx : zl x ≤ 274877906944) :
  Calls Tryz.prog 82 #[vx] w (RetZ w (-x)):=by
 obtain ⟨A, c, rfl, ix⟩:=hx.form
 have hlx:=abs_le lx
 have L0:=(((Lz.mk0 w).n ix).z hx)
 clear hx ix
 have HA:=Hd9 (neg_sg x)
 generalize ng x = b at *
 go_enter Tryz.func82, Tryz.ntmps82
 go_wp2_with fail
 have L:=((L0.box (w.heap.size) (by simp) b A (zl x) c).box (w.heap.size + 1) (by simp) false none 0 0)
 refine (rznatN_any (!b) x.natAbs _ _ (L.getN (by simp)) (by omega)).mono ?_
 rintro e w1 ⟨v1, rfl, iz, be⟩
 replace L:=(L.step be).z iz
 obtain ⟨A3, c3, rfl, _⟩:=iz.form
 clear be iz
 have c00:=L.b0.c0
 have c01:=L.b0.c1
 have f00:=L.b0.fr 0
 have f01:=L.b0.fr 1
 have c10:=L.tl.b0.c0
 have c11:=L.tl.b0.c1
 go_wp2_with fail
 have LP:=L.put (by omega) (by simp) (ng (sg (!b) x.natAbs)) (A3) (zl (sg (!b) x.natAbs)) (c3)
 have d0:=LP.b0.c0
 have d1:=LP.b0.c1
 unfold put2 at d0 d1
 exact bodyPost_ret (v:=.agg #[.bool (ng (sg (!b) x.natAbs)), .slice (A3) (zl (sg (!b) x.natAbs)) (c3)]) (by simp [results, Tryz.results82, go_sem, d0, d1]) rfl ⟨_, rfl, HA.out ▸ LP.hz, LP.below⟩

theorem rzadd_any (x y : Int) (vx vy : Value) (w : World) (hx : IsZ w vx x) (hy : IsZ w vy y) (lx : zl x ≤ 274877906944) (ly : zl y ≤ 274877906944) :
  Calls Tryz.prog 84 #[vx, vy] w (RetZ w (x + y)):=by
 obtain ⟨A, c, rfl, ix⟩:=hx.form
 obtain ⟨B, d, rfl, iy⟩:=hy.form
 have hlx:=abs_le lx
 have hly:=abs_le ly
 have L0:=(((((Lz.mk0 w).n iy).n ix).z hy).z hx)
 clear hx hy ix iy
 by_cases hs : ng x = ng y
 ·have HA:=Hd9 (add_same hs)
  have hls:=len_add x.natAbs y.natAbs
  rw [← hs] at L0 ⊢
  clear hs
  generalize ng x = b at *
  go_enter Tryz.func84, Tryz.ntmps84
  go_wp2_with fail
  have L:=(((L0.box (w.heap.size) (by simp) b A (zl x) c).box (w.heap.size + 1) (by simp) b B (zl y) d).box (w.heap.size + 2) (by simp) false none 0 0)
  replace L:=L.drew
  have c00:=L.b0.c0
  have c01:=L.b0.c1
  have f00:=L.b0.fr 0
  have f01:=L.b0.fr 1
  have c10:=L.tl.b0.c0
  have c11:=L.tl.b0.c1
  have c20:=L.tl.tl.b0.c0
  have c21:=L.tl.tl.b0.c1
  go_region_held3 (fun w' => w'.cell? ⟨w.heap.size, 0, none⟩ = some (.bool b) ∧ w'.cell? ⟨w.heap.size, 1, none⟩ = some (.slice A (zl x) c) ∧ w'.cell? ⟨w.heap.size + 1, 1, none⟩ = some (.slice B (zl y) d)) (first | (with_reducible exact ⟨L.tl.tl.b0.c0, L.tl.tl.b0.c1, L.tl.b0.c1⟩) | exact ⟨L.tl.tl.b0.c0, L.tl.tl.b0.c1, L.tl.b0.c1⟩ | (have LP:=L.put (by omega) (by simp) (ng (sg b (x.natAbs + y.natAbs))) (A3) (zl (sg b (x.natAbs + y.natAbs))) (c3); exact ⟨LP.tl.tl.b0.c0, LP.tl.tl.b0.c1, LP.tl.b0.c1⟩)) (first | (go_at_call 143; refine (radd_any x.natAbs y.natAbs _ _ _ (L.getN (by simp)) (L.getN (by simp)) (by omega) (by omega)).mono ?_; rintro e w2 ⟨v2, rfl, o⟩; replace L:=(L.step o.below).n o.isN; clear o) | (go_at_call 66; refine (rznatN_any b _ _ _ L.hn (by omega)).mono ?_; rintro e w3 ⟨v3, rfl, iz, be⟩; replace L:=(L.step be).z iz; obtain ⟨A3, c3, rfl, _⟩:=iz.form; clear be iz; have d30:=L.b0.c0; have d31:=L.b0.c1; have g30:=L.b0.fr 0; have g31:=L.b0.fr 1))
  clear c00 c01 f00 f01 c10 c11 c20 c21
  go_wp2_with fail
  have LP:=L.put (by omega) (by simp) (ng (sg b (x.natAbs + y.natAbs))) (A3) (zl (sg b (x.natAbs + y.natAbs))) (c3)
  have d0:=LP.b0.c0
  have d1:=LP.b0.c1
  unfold put2 at d0 d1
  exact bodyPost_ret (v:=.agg #[.bool (ng (sg b (x.natAbs + y.natAbs))), .slice (A3) (zl (sg b (x.natAbs + y.natAbs))) (c3)]) (by simp [results, Tryz.results84, go_sem, d0, d1]) rfl ⟨_, rfl, HA.out ▸ LP.hz, LP.below⟩
 ·have hbb : (ng x == ng y) = false:=by rw [beq_eq_false_iff_ne]; exact hs
  rcases Nat.lt_or_ge x.natAbs y.natAbs with hlt | hge
  ·have HA:=add_diff (Ne.symm hs) (Nat.le_of_lt hlt)
   rw [Int.add_comm y x] at HA
   replace HA:=Hd9 HA
   have HC:=fun W h1 h2 => rcmpB_any x.natAbs y.natAbs (.slice A (zl x) c) (.slice B (zl y) d) W h1 h2
   rw [cmpI_lt (by omega)] at HC
   have hls:=len_sub y.natAbs x.natAbs
   have HL:=Hd9 (fun W h1 h2 => rless_any y.natAbs x.natAbs (.slice B (zl y) d) (.slice A (zl x) c) W h1 h2 (by omega) (Nat.le_of_lt hlt))
   have HC2:=Hd9 HC
   clear HC hs
   generalize ng x = b at *
   generalize ng y = b2 at *
   go_enter Tryz.func84, Tryz.ntmps84
   go_wp2_with fail
   have L:=(((L0.box (w.heap.size) (by simp) b A (zl x) c).box (w.heap.size + 1) (by simp) b2 B (zl y) d).box (w.heap.size + 2) (by simp) false none 0 0)
   have c00:=L.b0.c0
   have c01:=L.b0.c1
   have f00:=L.b0.fr 0
   have f01:=L.b0.fr 1
   have c10:=L.tl.b0.c0
   have c11:=L.tl.b0.c1
   have c20:=L.tl.tl.b0.c0
   have c21:=L.tl.tl.b0.c1
   refine (HC2.out _ (L.getN (by simp)) (L.getN (by simp))).mono ?_
   rintro e w1 ⟨rfl, be⟩
   clear c00 c01 f00 f01 c10 c11 c20 c21
   replace L:=L.step be
   clear be
   have c00:=L.b0.c0
   have c01:=L.b0.c1
   have f00:=L.b0.fr 0
   have f01:=L.b0.fr 1
   have c10:=L.tl.b0.c0
   have c11:=L.tl.b0.c1
   have c20:=L.tl.tl.b0.c0
   have c21:=L.tl.tl.b0.c1
   go_wp2_with fail
   replace L:=L.drew
   go_region_held3 (fun w' => w'.cell? ⟨w.heap.size + 1, 0, none⟩ = some (.bool b2) ∧ w'.cell? ⟨w.heap.size, 1, none⟩ = some (.slice A (zl x) c) ∧ w'.cell? ⟨w.heap.size + 1, 1, none⟩ = some (.slice B (zl y) d)) (first | (with_reducible exact ⟨L.tl.b0.c0, L.tl.tl.b0.c1, L.tl.b0.c1⟩) | exact ⟨L.tl.b0.c0, L.tl.tl.b0.c1, L.tl.b0.c1⟩ | (have LP:=L.put (by omega) (by simp) (ng (sg b2 (y.natAbs - x.natAbs))) (A3) (zl (sg b2 (y.natAbs - x.natAbs))) (c3); exact ⟨LP.tl.b0.c0, LP.tl.tl.b0.c1, LP.tl.b0.c1⟩)) (first | (go_at_call 144; refine (HL.out _ (L.getN (by simp)) (L.getN (by simp))).mono ?_; rintro e w2 ⟨v2, rfl, o⟩; replace L:=(L.step o.below).n o.isN; clear o) | (go_at_call 66; refine (rznatN_any b2 _ _ _ L.hn (by omega)).mono ?_; rintro e w3 ⟨v3, rfl, iz, be⟩; replace L:=(L.step be).z iz; obtain ⟨A3, c3, rfl, _⟩:=iz.form; clear be iz; have d30:=L.b0.c0; have d31:=L.b0.c1; have g30:=L.b0.fr 0; have g31:=L.b0.fr 1))
   clear c00 c01 f00 f01 c10 c11 c20 c21
   go_wp2_with fail
   have LP:=L.put (by omega) (by simp) (ng (sg b2 (y.natAbs - x.natAbs))) (A3) (zl (sg b2 (y.natAbs - x.natAbs))) (c3)
   have d0:=LP.b0.c0
   have d1:=LP.b0.c1
   unfold put2 at d0 d1
   exact bodyPost_ret (v:=.agg #[.bool (ng (sg b2 (y.natAbs - x.natAbs))), .slice (A3) (zl (sg b2 (y.natAbs - x.natAbs))) (c3)]) (by simp [results, Tryz.results84, go_sem, d0, d1]) rfl ⟨_, rfl, HA.out ▸ LP.hz, LP.below⟩
  ·have HA:=Hd9 (add_diff hs hge)
   have HC:=fun W h1 h2 => rcmpB_any x.natAbs y.natAbs (.slice A (zl x) c) (.slice B (zl y) d) W h1 h2
   have hcc : 0 ≤ cmpI (x.natAbs : Int) (y.natAbs : Int):=by unfold cmpI; rw [if_neg (by omega)]; split <;> omega
   have hls:=len_sub x.natAbs y.natAbs
   have HL:=Hd9 (fun W h1 h2 => rless_any x.natAbs y.natAbs (.slice A (zl x) c) (.slice B (zl y) d) W h1 h2 (by omega) hge)
   generalize cmpI (x.natAbs : Int) (y.natAbs : Int) = cc at *
   have HC2:=Hd9 HC
   clear HC hs
   generalize ng x = b at *
   generalize ng y = b2 at *
   go_enter Tryz.func84, Tryz.ntmps84
   go_wp2_with fail
   have L:=(((L0.box (w.heap.size) (by simp) b A (zl x) c).box (w.heap.size + 1) (by simp) b2 B (zl y) d).box (w.heap.size + 2) (by simp) false none 0 0)
   have c00:=L.b0.c0
   have c01:=L.b0.c1
   have f00:=L.b0.fr 0
   have f01:=L.b0.fr 1
   have c10:=L.tl.b0.c0
   have c11:=L.tl.b0.c1
   have c20:=L.tl.tl.b0.c0
   have c21:=L.tl.tl.b0.c1
   refine (HC2.out _ (L.getN (by simp)) (L.getN (by simp))).mono ?_
   rintro e w1 ⟨rfl, be⟩
   clear c00 c01 f00 f01 c10 c11 c20 c21
   replace L:=L.step be
   clear be
   have c00:=L.b0.c0
   have c01:=L.b0.c1
   have f00:=L.b0.fr 0
   have f01:=L.b0.fr 1
   have c10:=L.tl.b0.c0
   have c11:=L.tl.b0.c1
   have c20:=L.tl.tl.b0.c0
   have c21:=L.tl.tl.b0.c1
   go_wp2_with fail
   replace L:=L.drew
   go_region_held3 (fun w' => w'.cell? ⟨w.heap.size, 0, none⟩ = some (.bool b) ∧ w'.cell? ⟨w.heap.size, 1, none⟩ = some (.slice A (zl x) c) ∧ w'.cell? ⟨w.heap.size + 1, 1, none⟩ = some (.slice B (zl y) d)) (first | (with_reducible exact ⟨L.tl.tl.b0.c0, L.tl.tl.b0.c1, L.tl.b0.c1⟩) | exact ⟨L.tl.tl.b0.c0, L.tl.tl.b0.c1, L.tl.b0.c1⟩ | (have LP:=L.put (by omega) (by simp) (ng (sg b (x.natAbs - y.natAbs))) (A3) (zl (sg b (x.natAbs - y.natAbs))) (c3); exact ⟨LP.tl.tl.b0.c0, LP.tl.tl.b0.c1, LP.tl.b0.c1⟩)) (first | (go_at_call 144; refine (HL.out _ (L.getN (by simp)) (L.getN (by simp))).mono ?_; rintro e w2 ⟨v2, rfl, o⟩; replace L:=(L.step o.below).n o.isN; clear o) | (go_at_call 66; refine (rznatN_any b _ _ _ L.hn (by omega)).mono ?_; rintro e w3 ⟨v3, rfl, iz, be⟩; replace L:=(L.step be).z iz; obtain ⟨A3, c3, rfl, _⟩:=iz.form; clear be iz; have d30:=L.b0.c0; have d31:=L.b0.c1; have g30:=L.b0.fr 0; have g31:=L.b0.fr 1))
   clear c00 c01 f00 f01 c10 c11 c20 c21
   go_wp2_with fail
   have LP:=L.put (by omega) (by simp) (ng (sg b (x.natAbs - y.natAbs))) (A3) (zl (sg b (x.natAbs - y.natAbs))) (c3)
   have d0:=LP.b0.c0
   have d1:=LP.b0.c1
   unfold put2 at d0 d1
   exact bodyPost_ret (v:=.agg #[.bool (ng (sg b (x.natAbs - y.natAbs))), .slice (A3) (zl (sg b (x.natAbs - y.natAbs))) (c3)]) (by simp [results, Tryz.results84, go_sem, d0, d1]) rfl ⟨_, rfl, HA.out ▸ LP.hz, LP.below⟩

theorem rzsub_any (x y : Int) (vx vy : Value) (w : World) (hx : IsZ w vx x) (hy : IsZ w vy y) (lx : zl x ≤ 274877906944) (ly : zl y ≤ 274877906944) :
  Calls Tryz.prog 178 #[vx, vy] w (RetZ w (x - y)):=by
 obtain ⟨A, c, rfl, ix⟩:=hx.form
 obtain ⟨B, d, rfl, iy⟩:=hy.form
 have hlx:=abs_le lx
 have hly:=abs_le ly
 have L0:=(((((Lz.mk0 w).n iy).n ix).z hy).z hx)
 clear hx hy ix iy
 have HA:=Hd9 (show x + -y = x - y from Int.sub_eq_add_neg.symm)
 have hln:=zl_neg y
 generalize hb1 : ng x = b at *
 generalize hb2 : ng y = b2 at *
 have HB1:=Hd9 hb1
 have HB2:=Hd9 hb2
 clear hb1 hb2
 go_enter Tryz.func178, Tryz.ntmps178
 go_wp2_with fail
 have L:=(((L0.box (w.heap.size) (by simp) b A (zl x) c).box (w.heap.size + 1) (by simp) b2 B (zl y) d).box (w.heap.size + 2) (by simp) false none 0 0)
 replace L:=L.drew
 have c00:=L.b0.c0
 have c01:=L.b0.c1
 have f00:=L.b0.fr 0
 have f01:=L.b0.fr 1
 have c10:=L.tl.b0.c0
 have c11:=L.tl.b0.c1
 have c20:=L.tl.tl.b0.c0
 have c21:=L.tl.tl.b0.c1
 obtain ⟨ny, hny⟩:=nm9 (-y)
 have HN:=Hd9 (fun W (h : IsZ W (.agg #[.bool b2, .slice B (zl y) d]) y) => hny ▸ rzneg_any y _ W h ly)
 rw [hny] at HA hln
 clear hny
 have hln2 : zl ny ≤ 274877906944:=by omega
 clear hln
 go_region_held3 (fun w' => w'.cell? ⟨w.heap.size, 0, none⟩ = some (.bool b) ∧ w'.cell? ⟨w.heap.size, 1, none⟩ = some (.slice A (zl x) c) ∧ w'.cell? ⟨w.heap.size + 1, 0, none⟩ = some (.bool b2) ∧ w'.cell? ⟨w.heap.size + 1, 1, none⟩ = some (.slice B (zl y) d)) (first | (with_reducible exact ⟨L.tl.tl.b0.c0, L.tl.tl.b0.c1, L.tl.b0.c0, L.tl.b0.c1⟩) | exact ⟨L.tl.tl.b0.c0, L.tl.tl.b0.c1, L.tl.b0.c0, L.tl.b0.c1⟩ | (have LP:=L.put (by omega) (by simp) (ng (x + ny)) (A3) (zl (x + ny)) (c3); exact ⟨LP.tl.tl.b0.c0, LP.tl.tl.b0.c1, LP.tl.b0.c0, LP.tl.b0.c1⟩)) (first | (go_at_call 82; refine (HN.out _ (L.getZ (by simp))).mono ?_; rintro e w2 ⟨v2, rfl, iz, be⟩; replace L:=(L.step be).z iz; clear iz be) | (go_at_call 84; refine (rzadd_any x ny _ _ _ (L.getZ (by simp)) L.hz lx hln2).mono ?_; rintro e w3 ⟨v3, rfl, iz, be⟩; replace L:=(L.step be).z iz; obtain ⟨A3, c3, rfl, _⟩:=iz.form; clear be iz; have d30:=L.b0.c0; have d31:=L.b0.c1; have g30:=L.b0.fr 0; have g31:=L.b0.fr 1))
 clear c00 c01 f00 f01 c10 c11 c20 c21
 go_wp2_with fail
 have LP:=L.put (by omega) (by simp) (ng (x + ny)) (A3) (zl (x + ny)) (c3)
 have d0:=LP.b0.c0
 have d1:=LP.b0.c1
 unfold put2 at d0 d1
 exact bodyPost_ret (v:=.agg #[.bool (ng (x + ny)), .slice (A3) (zl (x + ny)) (c3)]) (by simp [results, Tryz.results178, go_sem, d0, d1]) rfl ⟨_, rfl, HA.out ▸ LP.hz, LP.below⟩

theorem rzcmp_any (x y : Int) (vx vy : Value) (w : World) (hx : IsZ w vx x) (hy : IsZ w vy y) (lx : zl x ≤ 137438953472) (ly : zl y ≤ 137438953472) :
  Calls Tryz.prog 108 #[vx, vy] w (RetI w (cmpI x y)):=by
 obtain ⟨A, c, rfl, ix⟩:=hx.form
 obtain ⟨B, d, rfl, iy⟩:=hy.form
 have hlx:=abs_le lx
 have hly:=abs_le ly
 have L0:=(((((Lz.mk0 w).n iy).n ix).z hy).z hx)
 clear hx hy ix iy
 have HS:=Hd9 (fun W h1 h2 => rzsub_any x y (.agg #[.bool (ng x), .slice A (zl x) c]) (.agg #[.bool (ng y), .slice B (zl y) d]) W h1 h2 (by omega) (by omega))
 have hls:=zl_sub x y
 have HE:=Hd9 (cmp_sub x y)
 generalize ng x = b at *
 generalize ng y = b2 at *
 obtain ⟨z, hz⟩:=nm9 (x - y)
 rw [hz] at HS hls HE
 clear hz
 go_enter Tryz.func108, Tryz.ntmps108
 go_wp2_with fail
 have L:=((L0.box (w.heap.size) (by simp) b A (zl x) c).box (w.heap.size + 1) (by simp) b2 B (zl y) d)
 have c00:=L.b0.c0
 have c01:=L.b0.c1
 have c10:=L.tl.b0.c0
 have c11:=L.tl.b0.c1
 refine (HS.out _ (L.getZ (by simp)) (L.getZ (by simp))).mono ?_
 rintro e w1 ⟨v3, rfl, iz, be⟩
 clear c00 c01 c10 c11
 replace L:=(L.step be).z iz
 clear be iz HS
 go_wp2_with fail
 refine (rzsign_any z _ _ L.hz (by omega)).mono ?_
 rintro e w2 ⟨rfl, be⟩
 replace L:=L.step be
 clear be
 go_wp2_with fail
 go_ret
 exact ⟨by rw [HE.out] <;> rfl, L.below⟩

end Go.Proofs.YtiddbhhhmeopeaaGreatDoor


/- Walks: the reference's Shl, Shr. -/
namespace Go.Proofs.YtiddbhhhmeopeaaGreatDoor
set_option maxHeartbeats 64000000
open Go.RowKit
set_option linter.unusedVariables false
set_option linter.unusedSimpArgs false
set_option maxRecDepth 100000
attribute [local go_sem ↓] Go.wp_at_zero Go.wp_at_succ

theorem rzshl_any (x : Int) (vx : Value) (w : World) (hx : IsZ w vx x) (lx : zl x ≤ 274877906944) (k : Nat) (hk : k ≤ 1048576) :
  Calls Tryz.prog 85 #[vx, .int .i64 (k : Int)] w (RetZ w (x * 2 ^ k)):=by
 obtain ⟨A, c, rfl, ix⟩:=hx.form
 have hlx:=abs_le lx
 have L0:=(((Lz.mk0 w).n ix).z hx)
 clear hx ix
 have HA:=Hd9 (shl_sg x k)
 have hls:=len_shl x.natAbs k
 have HS:=Hd9 (fun W h => rshlK_any x.natAbs k (.slice A (zl x) c) W h (by omega) (by omega))
 obtain ⟨p, hp⟩:=nm9 (x.natAbs * 2 ^ k)
 obtain ⟨q, hq⟩:=nm9 (x * 2 ^ k)
 rw [hp] at HA hls HS
 rw [hq] at HA ⊢
 clear hp hq
 generalize ng x = b at *
 go_enter Tryz.func85, Tryz.ntmps85
 go_wp2_with fail
 have L:=((L0.box (w.heap.size) (by simp) b A (zl x) c).box (w.heap.size + 1) (by simp) false none 0 0)
 replace L:=L.drew
 have c00:=L.b0.c0
 have c01:=L.b0.c1
 have f00:=L.b0.fr 0
 have f01:=L.b0.fr 1
 have c10:=L.tl.b0.c0
 have c11:=L.tl.b0.c1
 go_region_held3 (fun w' => w'.cell? ⟨w.heap.size, 0, none⟩ = some (.bool b) ∧ w'.cell? ⟨w.heap.size, 1, none⟩ = some (.slice A (zl x) c)) (first | (with_reducible exact ⟨L.tl.b0.c0, L.tl.b0.c1⟩) | exact ⟨L.tl.b0.c0, L.tl.b0.c1⟩ | (have LP:=L.put (by omega) (by simp) (ng (sg b p)) (A3) (zl (sg b p)) (c3); exact ⟨LP.tl.b0.c0, LP.tl.b0.c1⟩)) (first | (go_at_call 142; refine (HS.out _ (L.getN (by simp))).mono ?_; rintro e w2 ⟨v2, rfl, o⟩; replace L:=(L.step o.below).n o.isN; clear o) | (go_at_call 66; refine (rznatN_any b _ _ _ L.hn (by omega)).mono ?_; rintro e w3 ⟨v3, rfl, iz, be⟩; replace L:=(L.step be).z iz; obtain ⟨A3, c3, rfl, _⟩:=iz.form; clear be iz; have d30:=L.b0.c0; have d31:=L.b0.c1; have g30:=L.b0.fr 0; have g31:=L.b0.fr 1))
 clear c00 c01 f00 f01 c10 c11
 go_wp2_with fail
 have LP:=L.put (by omega) (by simp) (ng (sg b p)) (A3) (zl (sg b p)) (c3)
 have d0:=LP.b0.c0
 have d1:=LP.b0.c1
 unfold put2 at d0 d1
 exact bodyPost_ret (v:=.agg #[.bool (ng (sg b p)), .slice (A3) (zl (sg b p)) (c3)]) (by simp [results, Tryz.results85, go_sem, d0, d1]) rfl ⟨_, rfl, HA.out ▸ LP.hz, LP.below⟩

end Go.Proofs.YtiddbhhhmeopeaaGreatDoor


/- Walks: the mill's Int; the laws' two. -/
namespace Go.Proofs.YtiddbhhhmeopeaaGreatDoor
set_option maxHeartbeats 64000000
open Go.RowKit
set_option linter.unusedVariables false
set_option linter.unusedSimpArgs false
set_option maxRecDepth 100000
attribute [local go_sem ↓] Go.wp_at_zero Go.wp_at_succ
def RetMillZ (w : World) (m : Nat) (e : Ending) (w' : World) : Prop:=∃ v b z, e = .returned (.tuple #[v, .bool b]) ∧ IsZ w' v z ∧ zl z ≤ m ∧ Below w.heap.size w w'
theorem isZ_zero (w : World) : IsZ w (.agg #[.bool false, .slice none 0 0]) 0:=⟨_, rfl, IsN.zero w⟩

theorem millZ_any (b : Bool) (l : List Nat) (m : Nat) (A : Option Addr) (n c : Nat) (w : World) (h : Sl w A n c l) (hm : m ≤ 1000000) :
  Calls Tryz.prog 72 #[.agg #[.bool b, .slice A n c], .int .i64 (m : Int)] w (RetMillZ w m):=by
 have h63:=h.le63
 have hlv : len (val l) ≤ n:=Nat.le_trans (len_val_le h.small) (by rw [h.len]; exact Nat.le_refl _)
 rcases Nat.lt_or_ge m n with hlt | hge
 ·clear hlv h
  go_enter Tryz.func72, Tryz.ntmps72
  go_wp2_with fail
  have L:=(((Lz.mk0 w).box (w.heap.size) (by simp) b A n c).box (w.heap.size + 1) (by simp) false none 0 0)
  exact bodyPost_ret (v:=.tuple #[.agg #[.bool false, .slice none 0 0], .bool false]) (by simp [results, Tryz.results72, go_sem]) rfl ⟨_, _, _, rfl, isZ_zero _, by rw [zl_zero]; omega, L.below⟩
 ·have HT:=Hd9 (fun W (hW : Below w.heap.size w W) => rznat_any b l A n c W (h.mono hW) (by omega))
  have hz : zl (sg b (val l)) ≤ len (val l):=Nat.le_of_eq (zl_sg b (val l))
  obtain ⟨z, hzz⟩:=nm9 (sg b (val l))
  rw [hzz] at HT hz
  clear hzz h
  go_enter Tryz.func72, Tryz.ntmps72
  go_wp2_with fail
  have L:=(((Lz.mk0 w).box (w.heap.size) (by simp) b A n c).box (w.heap.size + 1) (by simp) false none 0 0)
  have c00:=L.b0.c0
  have c01:=L.b0.c1
  have f00:=L.b0.fr 0
  have f01:=L.b0.fr 1
  have c10:=L.tl.b0.c0
  have c11:=L.tl.b0.c1
  refine (HT.out _ L.below).mono ?_
  rintro e w1 ⟨v3, rfl, iz, be⟩
  clear c00 c01 f00 f01 c10 c11
  replace L:=(L.step be).z iz
  obtain ⟨A3, c3, rfl, _⟩:=iz.form
  clear be iz HT
  have c00:=L.b0.c0
  have c01:=L.b0.c1
  have f00:=L.b0.fr 0
  have f01:=L.b0.fr 1
  have c10:=L.tl.b0.c0
  have c11:=L.tl.b0.c1
  go_wp2_with fail
  have LP:=L.put (by omega) (by simp) (ng z) A3 (zl z) c3
  have d0:=LP.b0.c0
  have d1:=LP.b0.c1
  unfold put2 at d0 d1
  exact bodyPost_ret (v:=.tuple #[.agg #[.bool (ng z), .slice A3 (zl z) c3], .bool true]) (by simp [results, Tryz.results72, go_sem, d0, d1]) rfl ⟨_, _, z, rfl, LP.hz, by omega, LP.below⟩

end Go.Proofs.YtiddbhhhmeopeaaGreatDoor

