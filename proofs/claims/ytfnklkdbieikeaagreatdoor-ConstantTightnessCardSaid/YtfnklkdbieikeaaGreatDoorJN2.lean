/- Joined: CpC, CpD, CpE, CoA, RefCoA, RefCoK, CoT, RefCoD (what the law leans on). -/
import Derived.Test.YtfnklkdbieikeaaGreatDoorBaseJ
import Derived.Test.YtfnklkdbieikeaaGreatDoorRefDivMod
import Derived.Test.YtfnklkdbieikeaaGreatDoorBaseM
import Derived.Test.YtfnklkdbieikeaaGreatDoorBaseV
import Derived.Test.YtfnklkdbieikeaaGreatDoorRefGrB
import Derived.Test.YtfnklkdbieikeaaGreatDoorBaseW
import Derived.Test.YtfnklkdbieikeaaGreatDoorJN1
import Derived.Deep.Cut
import Derived.Deep.CutRange
import Derived.Deep.DrawnRows
import Derived.Deep.RegionHeld3
namespace Go.Proofs.YtfnklkdbieikeaaGreatDoor
open Go.RowKit
set_option linter.unusedVariables false
set_option linter.unusedSimpArgs false
set_option maxRecDepth 100000
attribute [local go_sem ↓] Go.wp_at_zero Go.wp_at_succ

/-- A slice of parts: what its elements hold. -/
def RowP (w : World) (v : Value) (l : List (Int × Nat × Int)) : Prop := ∃ g c, v = .slice (some ⟨g, 0, none⟩) l.length c ∧ g < w.heap.size ∧ ∀ (j : Nat) (x : Int × Nat × Int), l[j]? = some x → w.cell? ⟨g, 3 * j, none⟩ = some (.int .i64 x.1) ∧ w.cell? ⟨g, 3 * j + 1, none⟩ = some (.func (.func x.2.1) #[] #[]) ∧ w.cell? ⟨g, 3 * j + 2, none⟩ = some (.int .i64 x.2.2)
/-- The sum from here on. -/
def ttl : List Int → Int → Int
  | [], s => s
  | c :: l, s => ttl l (s + c)
def SmI (cs : List Int) (u t : Nat) (s T : Int) : Prop := AbP s (u + t) ∧ ttl (cs.drop t) s = T
theorem SmI.step {cs : List Int} {u t : Nat} {s T c : Int} (h : SmI cs u t s T) (hc : cs[t]? = some c) (hb : AbP c u) : SmI cs u (t + 1) (s + c) T := by
  refine ⟨h.1.add (hb.up (by omega)), ?_⟩
  have h2 := h.2
  obtain ⟨hl, e⟩ := List.getElem?_eq_some_iff.1 hc
  rw [List.drop_eq_getElem_cons hl, e, ttl] at h2
  exact h2
theorem SmI.last {cs : List Int} {u : Nat} {s T : Int} (h : SmI cs u cs.length s T) : s = T := by
  have h2 := h.2
  rw [List.drop_length, ttl] at h2
  exact h2
theorem lo_out (T : Int) (k : Nat) {m e : Int} (h : dq m e = dq (T - 262144) (-((k + 32 : Nat) : Int))) : cutQ (dq m e) (k : Int) = loC T := by
  rw [h, cutD_down 32 (by omega)]
  rfl
theorem hi_out (T : Int) (k : Nat) {m e : Int} (h : dq m e = dq (T + 262144) (-((k + 32 : Nat) : Int))) : -(cutQ (-(dq m e)) (k : Int)) = hiC T := by
  rw [h, ← dq_neg, cutD_down 32 (by omega)]
  rfl
theorem loC_abs {T : Int} {u : Nat} (h : AbP T u) (hu : 18 ≤ u) : AbP (loC T) (u + 1) ∧ AbP (hiC T) (u + 1) := by
  have e0 : (262144 : Int) = ((2 ^ 18 : Nat) : Int) := by decide
  have h1 : AbP 262144 u := AbP.up (j := 18) (by unfold AbP; decide) hu
  have a1 := h.add h1.neg
  have a2 := h.add h1
  rw [← Int.sub_eq_add_neg] at a1
  unfold AbP at *
  unfold loC hiC cdv
  have x1 : ((T - 262144) / 4294967296).natAbs ≤ (T - 262144).natAbs := Int.natAbs_ediv_le_natAbs _ _
  have x2 : (-(T + 262144) / 4294967296).natAbs ≤ (-(T + 262144)).natAbs := Int.natAbs_ediv_le_natAbs _ _
  rw [Int.natAbs_neg] at x2 ⊢
  exact ⟨Nat.le_trans x1 a1, Nat.le_trans x2 a2⟩

set_option maxHeartbeats 4000000 in
theorem cencl_no (k : Int) (vl : Value) (A : Option Addr) (n c : Nat) (w : World) (hk : okW k = false) (hv : vl = .slice A n c) :
    Calls Tryz.prog 61 #[.int .i64 k, vl] w (RetIE w 0 0 0 0 1) := by
  subst hv
  have HP0 := fun W => cperm_any k W
  rw [hk] at HP0
  have HP := Lib.hid HP0
  clear HP0
  go_enter Tryz.func61, Tryz.ntmps61
  have L := ((Lq.mk0 w).varI (w.heap.size) (by simp) false none 0 0 0 false none 0 0 0)
  have c00 := L.b0.c60
  have f00 := L.b0.fr 0
  have c01 := L.b0.c61
  have f01 := L.b0.fr 1
  have c02 := L.b0.c62
  have f02 := L.b0.fr 2
  have c03 := L.b0.c63
  have f03 := L.b0.fr 3
  have c04 := L.b0.c64
  have f04 := L.b0.fr 4
  have c05 := L.b0.c65
  have f05 := L.b0.fr 5
  (try go_wp2_with fail)
  refine (HP.out _).mono ?_
  rintro e9 w' ⟨rfl, rfl⟩
  (try go_wp2_with fail)
  exact bodyPost_ret (v := .tuple #[.agg #[.bool false, .slice none 0 0, .int .i64 0, .bool false, .slice none 0 0, .int .i64 0], .int .i64 1]) (by simp [results, Tryz.results61, go_sem, c00, c01, c02, c03, c04, c05]) rfl ⟨_, rfl, isI_zero _, L.below⟩
set_option maxHeartbeats 16000000 in
theorem cencl_yes (k : Nat) (l : List (Int × Nat × Int)) (cs : List Int) (T : Int) (vl : Value) (w : World) (hk : k ≤ 900) (hl : RowP w vl l) (hlen : cs.length = l.length) (hn : l.length ≤ 100) (hT : Tab w) (hb : ∀ c ∈ cs, AbP c 1600) (hsum : ttl cs 0 = T) (hf : ∀ (j : Nat) x c W, l[j]? = some x → cs[j]? = some c → Below w.heap.size w W → Calls Tryz.prog 114 #[.agg #[.int .i64 x.1, .func (.func x.2.1) #[] #[], .int .i64 x.2.2], .int .i64 ((k + 32 : Nat) : Int)] W (RetD8 W (mkM c 0) (mkE c 0))) :
    Calls Tryz.prog 61 #[.int .i64 (k : Int), vl] w (RetIE w (mkM (loC T) (-(k : Int))) (mkE (loC T) (-(k : Int))) (mkM (hiC T) (-(k : Int))) (mkE (hiC T) (-(k : Int))) 0) := by
  obtain ⟨g, c, rfl, hg, hrow⟩ := hl
  obtain ⟨q, hq⟩ : ∃ q, k + 32 = q := ⟨_, rfl⟩
  obtain ⟨n, hn2⟩ : ∃ n, l.length = n := ⟨_, rfl⟩
  have hTb : AbP T 1700 := by
    have hx : ∀ (r : List Int) (s : Int) (u : Nat), (∀ c ∈ r, AbP c 1600) → AbP s (1600 + u) → AbP (ttl r s) (1600 + (u + r.length)) := fun r => by
      induction r with
      | nil => intro s u _ h; exact h
      | cons c r ih =>
        intro s u h1 h2
        rw [ttl]
        have := ih (s + c) (u + 1) (fun x hx => h1 x (List.mem_cons_of_mem _ hx)) (h2.add ((h1 c List.mem_cons_self).up (by omega)))
        rw [List.length_cons, show u + (r.length + 1) = u + 1 + r.length by omega]
        exact this
    have := hx cs 0 0 hb (AbP.zero _)
    rw [hsum] at this
    exact this.up (by omega)
  obtain ⟨lb1, lb2⟩ := loC_abs hTb (by omega)
  have mb : AbP 262144 1700 := AbP.up (j := 18) (by unfold AbP; decide) (by omega)
  have HP0 := fun W => cperm_any (k : Int) W
  have hkb : okW (k : Int) = true := by
    unfold okW
    rw [decide_eq_true (show (0 : Int) ≤ (k : Int) by omega), decide_eq_true (show (k : Int) ≤ 4224 by omega)]
    rfl
  rw [hkb] at HP0
  have hTT := fun W (hW : Below w.heap.size w W) => hT.mono hW
  have g1 := fun W (hW : Below w.heap.size w W) => dof_any 1 W (by omega) (by omega) (hTT W hW)
  obtain ⟨u1, u2, u3⟩ := nf_up (k := 18) (by omega)
  obtain ⟨_, y2, y3, y4, _, _⟩ := nf (t := 1) (v := 0) (by unfold AbP; decide) (by omega)
  have g2 := fun x W h (hW : Below w.heap.size w W) => dshift_any (mkM 1 0) (mkE 1 0) 18 x W h (by omega) (by omega) (by omega) (hTT W hW)
  rw [show ((18 : Nat) : Int) = 18 from rfl] at u1 u2 u3
  rw [show (2 : Int) ^ 18 = 262144 from by decide] at u2 u3
  rw [u1, u2, u3] at g2
  obtain ⟨_, t2, t3, t4, _, _⟩ := nf hTb (by omega)
  obtain ⟨_, v2, v3, v4, _, _⟩ := nf mb (by omega)
  obtain ⟨a1, a2, a3⟩ := nf_sub hTb mb (by omega)
  obtain ⟨b1, b2, b3⟩ := nf_add hTb mb (by omega)
  have g3 := fun x y W h j (hW : Below w.heap.size w W) => dsub_any (mkM T 0) (mkE T 0) (mkM 262144 0) (mkE 262144 0) x y W h j (by omega) (by omega) (by omega) (by omega) (hTT W hW)
  rw [a1, a2, a3] at g3
  have g4 := fun x y W h j (hW : Below w.heap.size w W) => dadd_any (mkM T 0) (mkE T 0) (mkM 262144 0) (mkE 262144 0) x y W h j (by omega) (by omega) (by omega) (by omega) (hTT W hW)
  rw [b1, b2, b3] at g4
  have lob : AbP (T - 262144) 1701 := by rw [Int.sub_eq_add_neg]; exact hTb.add mb.neg
  have hib : AbP (T + 262144) 1701 := hTb.add mb
  obtain ⟨d1, d2, d3, d4, d5, d6⟩ := nf_down (k := q) lob (by omega) (by omega)
  obtain ⟨e1, e2, e3, e4, e5, e6⟩ := nf_down (k := q) hib (by omega) (by omega)
  obtain ⟨_, i2, i3, i4, _, _⟩ := nf lob (by omega)
  obtain ⟨_, j2, j3, j4, _, _⟩ := nf hib (by omega)
  have g5 := fun x W h (hW : Below w.heap.size w W) => dshift_any (mkM (T - 262144) 0) (mkE (T - 262144) 0) (-(q : Int)) x W h (by omega) (by omega) (by omega) (hTT W hW)
  have g6 := fun x W h (hW : Below w.heap.size w W) => dshift_any (mkM (T + 262144) 0) (mkE (T + 262144) 0) (-(q : Int)) x W h (by omega) (by omega) (by omega) (hTT W hW)
  rw [d1] at g5
  rw [e1] at g6
  rw [← hq] at d3 e3
  have lo1 := lo_out T k d3
  have hi1 := hi_out T k e3
  rw [hq] at lo1 hi1
  have z1 := (lb1).zl
  have z2 := (lb2).zl
  have hpk : permB (k : Int) = true := by
    unfold permB
    rw [decide_eq_true (show (-2048 : Int) ≤ (k : Int) by omega), decide_eq_true (show (k : Int) ≤ 8192 by omega)]
    rfl
  have g7 := fun x W h (hW : Below w.heap.size w W) => i10out_yes (mkM (mkM (T - 262144) 0) (mkE (T - 262144) 0 + -(q : Int))) (mkE (mkM (T - 262144) 0) (mkE (T - 262144) 0 + -(q : Int))) (mkM (mkM (T + 262144) 0) (mkE (T + 262144) 0 + -(q : Int))) (mkE (mkM (T + 262144) 0) (mkE (T + 262144) 0 + -(q : Int))) (k : Int) x W h (by omega) (by omega) ⟨d5, d6⟩ ⟨e5, e6⟩ (by omega) (by omega) hpk (by rw [lo1]; exact mk_fits9 (by omega) (by omega) (by omega)) (by rw [hi1]; exact mk_fits9 (by omega) (by omega) (by omega)) (hTT W hW)
  rw [lo1, hi1] at g7
  clear lo1 hi1 d1 d2 d3 d4 d5 d6 e1 e2 e3 e4 e5 e6 u1 u2 u3 y2 y3 y4 t2 t3 t4 v2 v3 v4 a1 a2 a3 b1 b2 b3 i2 i3 i4 j2 j3 j4 lob hib lb1 lb2 z1 z2 hkb
  generalize mkM (loC T) (-(k : Int)) = Ma at *
  generalize mkE (loC T) (-(k : Int)) = Ea at *
  generalize mkM (hiC T) (-(k : Int)) = Na at *
  generalize mkE (hiC T) (-(k : Int)) = Fa at *
  generalize mkM (mkM (T - 262144) 0) (mkE (T - 262144) 0 + -(q : Int)) = Mb at *
  generalize mkE (mkM (T - 262144) 0) (mkE (T - 262144) 0 + -(q : Int)) = Eb at *
  generalize mkM (mkM (T + 262144) 0) (mkE (T + 262144) 0 + -(q : Int)) = Nb at *
  generalize mkE (mkM (T + 262144) 0) (mkE (T + 262144) 0 + -(q : Int)) = Fb at *
  generalize mkM (T - 262144) 0 = Mc at *
  generalize mkE (T - 262144) 0 = Ec at *
  generalize mkM (T + 262144) 0 = Nc at *
  generalize mkE (T + 262144) 0 = Fc at *
  generalize mkM 262144 0 = Mm at *
  generalize mkE 262144 0 = Em at *
  generalize mkM 1 0 = M1 at *
  generalize mkE 1 0 = E1 at *
  rw [hq] at hf
  rw [hn2] at hlen hn ⊢
  have w1 : IntKind.i64.wrap ((k : Int) + 32) = (q : Int) := by rw [IntKind.wrap_i64]; omega
  have w2 : IntKind.i64.wrap (-(q : Int)) = -(q : Int) := by rw [IntKind.wrap_i64]; omega
  have HRW := Lib.hid hrow
  have HB := Lib.hid hb
  have HN := Lib.hid (And.intro hn2 hlen)
  have HT := Lib.hid hTT
  have HF := Lib.hid hf
  have HP := Lib.hid HP0
  have HS := Lib.hid (show SmI cs 1600 0 0 T from ⟨AbP.zero _, hsum⟩)
  have G1 := Lib.hid g1
  have G2 := Lib.hid g2
  have G3 := Lib.hid g3
  have G4 := Lib.hid g4
  have G5 := Lib.hid g5
  have G6 := Lib.hid g6
  have G7 := Lib.hid g7
  clear g1 g2 g3 g4 g5 g6 g7 hf hT hTT hb hsum HP0 hrow hpk hTb mb hq hn2 hlen
  go_enter Tryz.func61, Tryz.ntmps61
  have L := ((Lq.mk0 w).varI (w.heap.size) (by simp) false none 0 0 0 false none 0 0 0)
  (try go_wp2_with fail)
  refine (HP.out _).mono ?_
  rintro e9 w' ⟨rfl, rfl⟩
  replace L := L.varD (w.heap.size + 1) (by simp) false none 0 0 0
  have c00 := L.b0.c30
  have f00 := L.b0.fr 0
  have c01 := L.b0.c31
  have f01 := L.b0.fr 1
  have c02 := L.b0.c32
  have f02 := L.b0.fr 2
  (try go_wp2_with fail)
  clear c00 f00 c01 f01 c02 f02
  go_loopw [25] (fun i wr => ∃ (t : Nat) (s N K : Int) (A2 : Option Addr) (c2 : Nat), i = .int .i64 (t : Int) ∧ t ≤ n ∧ Lq w wr [(.slice A2 (zl N) c2, N.natAbs)] [] [] [(w.heap.size + 1, 29, #[.bool (ng N), .slice A2 (zl N) c2, .int .i64 K]), (w.heap.size, 31, #[.bool false, .slice none 0 0, .int .i64 0, .bool false, .slice none 0 0, .int .i64 0])] ∧ Hid (SmI cs 1600 t s T ∧ mkM s 0 = N ∧ mkE s 0 = K)) (fun i _ => n - (intOf i).toNat)
  case atStart =>
    have zz : zl 0 = 0 := len_zero
    have LN := L.n (v := .slice none 0 0) (x := 0) (IsN.zero _)
    refine ⟨0, 0, 0, 0, none, 0, by go_num, by omega, ?_, Lib.hid ⟨HS.out, nf00⟩⟩
    rw [zz]
    exact LN.subs (by simp) (by simp [ng])
  case round =>
    clear L HS
    obtain ⟨t, s, N, K, A2, c2, rfl, ht, L, HS⟩ := hrel
    rcases Nat.eq_or_lt_of_le ht with rfl | ht3
    · obtain ⟨hI, hN, hK⟩ := HS.out
      rw [show t = cs.length from HN.out.2.symm] at hI
      obtain rfl := hI.last
      have G3' := G3.out
      have G4' := G4.out
      rw [hN, hK] at G3' G4'
      have G8 := Lib.hid G3'
      have G9 := Lib.hid G4'
      clear G3' G4' hI hN hK HS G3 G4 HB HF HRW
      have hl1 := L.b0.lt
      have c00 := L.b0.c30
      have c01 := L.b0.c31
      have c02 := L.b0.c32
      (try go_wp2_with fail)
      refine (G1.out _ L.below).mono ?_
      rintro e w41 ⟨v1, rfl, id, be⟩
      clear c00 c01 c02
      replace L := L.step be
      clear be
      (try go_wp2_with fail)
      refine (G2.out _ _ id L.below).mono ?_
      rintro e w42 ⟨v2, rfl, iz, be⟩
      obtain ⟨A3, c3, rfl, _, in9⟩ := iz.form
      replace L := (L.step be).n in9
      clear be iz in9 id
      have hl3 := L.b0.lt
      replace L := L.varD w42.heap.size rfl (ng Mm) A3 (zl Mm) c3 Em
      have c00 := L.b0.c30
      have c01 := L.b0.c31
      have c02 := L.b0.c32
      have c10 := L.tl.b0.c30
      have c11 := L.tl.b0.c31
      have c12 := L.tl.b0.c32
      go_wp2_with fail
      clear c00 c01 c02 c10 c11 c12
      obtain ⟨gm, hgm⟩ : ∃ g9, w42.heap.size = g9 := ⟨_, rfl⟩
      rw [hgm] at L hl3 ⊢
      clear hgm
      refine (G8.out _ _ _ (isD_n (m := N) (e := K) (s := .slice A2 (zl N) c2) (L.getN (by simp))) (isD_n (m := Mm) (e := Em) (s := .slice A3 (zl Mm) c3) (L.getN (by simp))) L.below).mono ?_
      rintro e w43 ⟨v2, rfl, iz, be⟩
      obtain ⟨A4, c4, rfl, _, in9⟩ := iz.form
      replace L := (L.step be).n in9
      clear be iz in9
      have hl4 := L.b0.lt
      replace L := L.varD w43.heap.size rfl (ng Mc) A4 (zl Mc) c4 Ec
      have c00 := L.b0.c30
      have c01 := L.b0.c31
      have c02 := L.b0.c32
      have c10 := L.tl.b0.c30
      have c11 := L.tl.b0.c31
      have c12 := L.tl.b0.c32
      have c20 := L.tl.tl.b0.c30
      have c21 := L.tl.tl.b0.c31
      have c22 := L.tl.tl.b0.c32
      go_wp2_with fail
      clear c00 c01 c02 c10 c11 c12 c20 c21 c22
      obtain ⟨gl, hgl⟩ : ∃ g9, w43.heap.size = g9 := ⟨_, rfl⟩
      rw [hgl] at L hl4 ⊢
      clear hgl
      refine (G9.out _ _ _ (isD_n (m := N) (e := K) (s := .slice A2 (zl N) c2) (L.getN (by simp))) (isD_n (m := Mm) (e := Em) (s := .slice A3 (zl Mm) c3) (L.getN (by simp))) L.below).mono ?_
      rintro e w44 ⟨v2, rfl, iz, be⟩
      obtain ⟨A5, c5, rfl, _, in9⟩ := iz.form
      replace L := (L.step be).n in9
      clear be iz in9
      have hl5 := L.b0.lt
      replace L := L.varD w44.heap.size rfl (ng Nc) A5 (zl Nc) c5 Fc
      have c00 := L.b0.c30
      have c01 := L.b0.c31
      have c02 := L.b0.c32
      have c10 := L.tl.b0.c30
      have c11 := L.tl.b0.c31
      have c12 := L.tl.b0.c32
      go_wp2_with fail
      clear c00 c01 c02 c10 c11 c12
      obtain ⟨gh, hgh⟩ : ∃ g9, w44.heap.size = g9 := ⟨_, rfl⟩
      rw [hgh] at L hl5 ⊢
      clear hgh
      refine (G5.out _ _ (isD_n (m := Mc) (e := Ec) (s := .slice A4 (zl Mc) c4) (L.getN (by simp))) L.below).mono ?_
      rintro e w45 ⟨v2, rfl, iz, be⟩
      obtain ⟨A6, c6, rfl, _, in9⟩ := iz.form
      replace L := (L.step be).n in9
      clear be iz in9
      have L4 := L.subs (ns' := [(.slice A6 (zl Mb) c6, Mb.natAbs), (.slice A5 (zl Nc) c5, Nc.natAbs)]) (bs' := [(gl, 29, #[.bool (ng Mc), .slice A4 (zl Mc) c4, .int .i64 Ec]), (gh, 29, #[.bool (ng Nc), .slice A5 (zl Nc) c5, .int .i64 Fc]), (w.heap.size, 31, #[.bool false, .slice none 0 0, .int .i64 0, .bool false, .slice none 0 0, .int .i64 0])]) (by simp) (by simp)
      clear L
      have L := L4
      clear L4
      have n1 : gl ≠ gh := by omega
      have n2 : w.heap.size ≠ gh := by omega
      have n3 : w.heap.size ≠ gl := by omega
      have c00 := L.b0.c30
      have f00 := L.b0.fr 0
      have c01 := L.b0.c31
      have f01 := L.b0.fr 1
      have c02 := L.b0.c32
      have f02 := L.b0.fr 2
      have c10 := L.tl.b0.c30
      have c11 := L.tl.b0.c31
      have c12 := L.tl.b0.c32
      have P := L.putD (by omega) (by simp [n1, n2, n3, Ne.symm n1, Ne.symm n2, Ne.symm n3]) (ng Mb) A6 (zl Mb) c6 Eb
      have p0 := P.tl.b0.c30
      have p1 := P.tl.b0.c31
      have p2 := P.tl.b0.c32
      unfold put3 at p0 p1 p2 P
      go_wp2_with fail
      replace L := P
      clear P p0 p1 p2
      clear c00 f00 c01 f01 c02 f02 c10 c11 c12
      refine (G6.out _ _ (isD_n (m := Nc) (e := Fc) (s := .slice A5 (zl Nc) c5) (L.getN (by simp))) L.below).mono ?_
      rintro e w46 ⟨v2, rfl, iz, be⟩
      obtain ⟨A7, c7, rfl, _, in9⟩ := iz.form
      replace L := (L.step be).n in9
      clear be iz in9
      replace L := L.swap
      have c00 := L.b0.c30
      have f00 := L.b0.fr 0
      have c01 := L.b0.c31
      have f01 := L.b0.fr 1
      have c02 := L.b0.c32
      have f02 := L.b0.fr 2
      have c10 := L.tl.b0.c30
      have c11 := L.tl.b0.c31
      have c12 := L.tl.b0.c32
      have P := L.putD (by omega) (by simp [n1, n2, n3, Ne.symm n1, Ne.symm n2, Ne.symm n3]) (ng Nb) A7 (zl Nb) c7 Fb
      have p0 := P.tl.b0.c30
      have p1 := P.tl.b0.c31
      have p2 := P.tl.b0.c32
      have p3 := P.b0.c30
      have p4 := P.b0.c31
      have p5 := P.b0.c32
      unfold put3 at p0 p1 p2 p3 p4 p5 P
      go_wp2_with fail
      replace L := P
      clear P p0 p1 p2 p3 p4 p5
      clear c00 f00 c01 f01 c02 f02 c10 c11 c12
      refine (G7.out _ _ (isI_n (m := Mb) (e := Eb) (n := Nb) (f := Fb) (s := .slice A6 (zl Mb) c6) (t := .slice A7 (zl Nb) c7) (L.getN (by simp)) (L.getN (by simp))) L.below).mono ?_
      rintro e w47 ⟨v2, rfl, ii, be⟩
      obtain ⟨A8, c8, B8, d8, rfl, ia, ib⟩ := ii.form
      replace L := (((L.step be).n ib).n ia).pull2
      clear be ii ia ib
      have c00 := L.b0.c60
      have f00 := L.b0.fr 0
      have c01 := L.b0.c61
      have f01 := L.b0.fr 1
      have c02 := L.b0.c62
      have f02 := L.b0.fr 2
      have c03 := L.b0.c63
      have f03 := L.b0.fr 3
      have c04 := L.b0.c64
      have f04 := L.b0.fr 4
      have c05 := L.b0.c65
      have f05 := L.b0.fr 5
      go_wp2_with fail
      have LP := L.putI (by omega) (by simp [n2, n3, Ne.symm n2, Ne.symm n3]) (ng Ma) A8 (zl Ma) c8 Ea (ng Na) B8 (zl Na) d8 Fa
      have k0 := LP.b0.c60
      have k1 := LP.b0.c61
      have k2 := LP.b0.c62
      have k3 := LP.b0.c63
      have k4 := LP.b0.c64
      have k5 := LP.b0.c65
      unfold put6 at k0 k1 k2 k3 k4 k5
      exact bodyPost_ret (v := .tuple #[.agg #[.bool (ng Ma), .slice A8 (zl Ma) c8, .int .i64 Ea, .bool (ng Na), .slice B8 (zl Na) d8, .int .i64 Fa], .int .i64 0]) (by simp [results, Tryz.results61, go_sem, k0, k1, k2, k3, k4, k5]) rfl ⟨_, rfl, isI_n (LP.getN (by simp)) (LP.getN (by simp)), LP.below⟩
    · obtain ⟨x, hx⟩ : ∃ x, l[t]? = some x := ⟨_, List.getElem?_eq_getElem (by rw [HN.out.1]; exact ht3)⟩
      obtain ⟨cc, hcc⟩ : ∃ x, cs[t]? = some x := ⟨_, List.getElem?_eq_getElem (by rw [HN.out.2]; exact ht3)⟩
      obtain ⟨e0, e1, e2⟩ := HRW.out t x hx
      replace e0 := (L.below.cell (p := ⟨g, 3 * t, none⟩) hg).trans e0
      replace e1 := (L.below.cell (p := ⟨g, 3 * t + 1, none⟩) hg).trans e1
      replace e2 := (L.below.cell (p := ⟨g, 3 * t + 2, none⟩) hg).trans e2
      rw [Nat.mul_comm 3 t] at e0 e1 e2
      obtain ⟨hI, hN, hK⟩ := HS.out
      have hcb := HB.out _ (List.mem_of_getElem? hcc)
      have hI2 := hI.step hcc hcb
      have o1 := fun W hW => HF.out t x cc W hx hcc hW
      obtain ⟨a1, a2, a3⟩ := nf_add hI.1 (hcb.up (show 1600 ≤ 1600 + t by omega)) (by omega)
      obtain ⟨_, b2, b3, b4, _, _⟩ := nf hI.1 (by omega)
      obtain ⟨_, d2, d3, d4, _, _⟩ := nf hcb (by omega)
      have o2 := fun x y W h j (hW : Below w.heap.size w W) => dadd_any (mkM s 0) (mkE s 0) (mkM cc 0) (mkE cc 0) x y W h j (by omega) (by omega) (by omega) (by omega) (HT.out W hW)
      rw [a1, a2, a3] at o2
      clear a1 a2 a3 b2 b3 b4 d2 d3 d4 hcb hI hcc hx
      obtain ⟨s2, hs2⟩ : ∃ z, s + cc = z := ⟨_, rfl⟩
      rw [hs2] at o2 hI2
      rw [hN, hK] at o2
      obtain ⟨N2, hN2⟩ : ∃ z, mkM s2 0 = z := ⟨_, rfl⟩
      obtain ⟨K2, hK2⟩ : ∃ z, mkE s2 0 = z := ⟨_, rfl⟩
      rw [hN2, hK2] at o2
      generalize mkM cc 0 = Mx at *
      generalize mkE cc 0 = Ex at *
      have HR := Lib.hid (And.intro hI2 (And.intro hN2 hK2))
      have O1 := Lib.hid o1
      have O2 := Lib.hid o2
      obtain ⟨xa, xF, xn⟩ := x
      dsimp only at e0 e1 e2 O1
      have hlt : (t : Int) < (n : Int) := by omega
      have ht0 : (0 : Int) ≤ (t : Int) := by omega
      have w3 : IntKind.i64.wrap ((t : Int) + 1) = (t : Int) + 1 := by rw [IntKind.wrap_i64]; omega
      have hl1 := L.b0.lt
      have hsf := fun (a : Addr) (W : World) => run_store Tryz.prog W a (.func (.func xF) #[] #[]) .plain rfl
      clear o1 o2 hI2 hN2 hK2 hN hK hs2 HS
      replace L := L.varP wr.heap.size rfl xa xF xn
      have cel00 := L.b0.c30
      have cel01 := L.b0.c31
      have cel02 := L.b0.c32
      have cel10 := L.tl.b0.c30
      have cel11 := L.tl.b0.c31
      have cel12 := L.tl.b0.c32
      go_wp2_with fail
      clear cel00 cel01 cel02 cel10 cel11 cel12
      obtain ⟨gx, hgx⟩ : ∃ gx, wr.heap.size = gx := ⟨_, rfl⟩
      rw [hgx] at L hl1 ⊢
      clear hgx e0 e1 e2
      have n1 : w.heap.size + 1 ≠ gx := by omega
      have cel00 := L.b0.c30
      have cel01 := L.b0.c31
      have cel02 := L.b0.c32
      have cel10 := L.tl.b0.c30
      have cel11 := L.tl.b0.c31
      have cel12 := L.tl.b0.c32
      (try go_wp2_with fail)
      replace L := L.drew.swap
      clear cel00 cel01 cel02 cel10 cel11 cel12
      have cel00 := L.b0.c30
      have f00 := L.b0.fr 0
      have cel01 := L.b0.c31
      have f01 := L.b0.fr 1
      have cel02 := L.b0.c32
      have f02 := L.b0.fr 2
      have cel10 := L.tl.b0.c30
      have cel11 := L.tl.b0.c31
      have cel12 := L.tl.b0.c32
      go_region_with (first | (go_at_call 114; (with_reducible refine (O1.out _ ?_ ).mono ?_); (· exact L.below); rintro e9 wh ⟨vh, rfl, id, be⟩; obtain ⟨A4, c4, rfl, _, in9⟩ := id.form; replace L := (L.step be).n in9; clear be id in9; (try (have xx00 := L.b0.c30; have yy00 := L.b0.fr 0; have xx01 := L.b0.c31; have yy01 := L.b0.fr 1; have xx02 := L.b0.c32; have yy02 := L.b0.fr 2)); (try (have xx10 := L.tl.b0.c30; have xx11 := L.tl.b0.c31; have xx12 := L.tl.b0.c32))) | (go_at_call 109; (with_reducible refine (O2.out _ _ _ ?_ ?_ ?_ ).mono ?_); (· (refine isD_n (L.getN ?_); (repeat (first | (with_reducible exact List.mem_cons_self) | apply List.mem_cons_of_mem)))); (· (refine isD_n (L.getN ?_); (repeat (first | (with_reducible exact List.mem_cons_self) | apply List.mem_cons_of_mem)))); (· exact L.below); rintro e9 wh ⟨vh, rfl, id, be⟩; obtain ⟨A5, c5, rfl, _, in9⟩ := id.form; replace L := (L.step be).n in9; clear be id in9; (try (have xx00 := L.b0.c30; have yy00 := L.b0.fr 0; have xx01 := L.b0.c31; have yy01 := L.b0.fr 1; have xx02 := L.b0.c32; have yy02 := L.b0.fr 2)); (try (have xx10 := L.tl.b0.c30; have xx11 := L.tl.b0.c31; have xx12 := L.tl.b0.c32))))
      all_goals
        clear cel00 f00 cel01 f01 cel02 f02 cel10 cel11 cel12
        have P := L.putD (by omega) (by simp [n1, Ne.symm n1]) (ng N2) A5 (zl N2) c5 K2
        unfold put3 at P
        go_wp2_with fail
        replace L := P
        clear P
        go_roundw
        case rel => exact ⟨t + 1, s2, N2, K2, A5, c5, by go_num, by omega, L.subs (by simp) (by simp), HR⟩
        case measure => simp [intOf]; omega

/-- The program's sums, of the parts with their factors. -/
def pt1 (c : Int) (p : Nat → Int × Int) (v : Nat) : Option Int := match smP p 600 0 (2 ^ v) 0 with
  | none => none
  | some a => some (a * c)
def add2 : Option Int → Option Int → Option Int
  | some a, some b => some (a + b)
  | _, _ => none
def piT (v : Nat) : Option Int := add2 (pt1 16 (tnP 5 1) v) (pt1 (-4) (tnP 239 1) v)
/-- The constants in units of 2^-500. -/
def cPi : Int := 10283659886096346733263384151503756861634764969113587550194014914087843208563500712840304045958917565049748851786214229816233622223046670298426214405232
def inP (c : Int) (k : Nat) : Option Int → Bool
  | none => false
  | some T => decide (loC T * 2 ^ (500 - k) ≤ c) && decide (c ≤ hiC T * 2 ^ (500 - k))
theorem pi_all : (List.range 400).all (fun k => inP cPi k (piT (k + 32))) = true := by decide +kernel
theorem plainP2 (a0 : Int) (F0 : Nat) (n0 : Int) (a1 : Int) (F1 : Nat) (n1 : Int) : Plain #[.int .i64 a0, .func (.func F0) #[] #[], .int .i64 n0, .int .i64 a1, .func (.func F1) #[] #[], .int .i64 n1] := fun j x => by
  match j with
  | 0 => simp
  | 1 => simp
  | 2 => simp
  | 3 => simp
  | 4 => simp
  | 5 => simp
  | j + 6 => simp
theorem rowP_2 {w : World} {g : Nat} {a0 : Int} {F0 : Nat} {n0 : Int} {a1 : Int} {F1 : Nat} {n1 : Int} (hv : Var w g 87 #[.int .i64 a0, .func (.func F0) #[] #[], .int .i64 n0, .int .i64 a1, .func (.func F1) #[] #[], .int .i64 n1]) : RowP w (.slice (some ⟨g, 0, none⟩) 2 2) [(a0, F0, n0), (a1, F1, n1)] := by
  refine ⟨g, 2, rfl, hv.lt, fun j x hx => ?_⟩
  match j with
  | 0 =>
    obtain rfl : (a0, F0, n0) = x := by simpa using hx
    exact ⟨hv.cell 0, hv.cell 1, hv.cell 2⟩
  | 1 =>
    obtain rfl : (a1, F1, n1) = x := by simpa using hx
    exact ⟨hv.cell 3, hv.cell 4, hv.cell 5⟩
  | j + 2 => simp at hx
theorem pt1_some {c : Int} {p : Nat → Int × Int} {v : Nat} {T : Int} (h : pt1 c p v = some T) : ∃ S, smP p 600 0 (2 ^ v) 0 = some S ∧ T = S * c := by
  unfold pt1 at h
  split at h
  · cases h
  · next a ha => exact ⟨a, ha, (Option.some.inj h).symm⟩
theorem add2_some {x y : Option Int} {T : Int} (h : add2 x y = some T) : ∃ a b, x = some a ∧ y = some b ∧ T = a + b := by
  match x, y with
  | some a, some b => exact ⟨a, b, rfl, rfl, (Option.some.inj h).symm⟩
  | none, _ => cases h
  | some _, none => cases h
theorem pt_abs {c S : Int} {p : Nat → Int × Int} {v : Nat} (hg : GdP p) (hS : smP p 600 0 (2 ^ v) 0 = some S) (hc : AbP c 10) (hv : v ≤ 950) : AbP (S * c) 1600 := ((smP_abs hg 600 0 _ _ _ (sp_first hS)).mul hc).up (by omega)

set_option maxHeartbeats 4000000 in
theorem cpi_no (k : Int) (w : World) (hk : okW k = false) :
    Calls Tryz.prog 25 #[.int .i64 k] w (RetIE w 0 0 0 0 1) := by
  have g1 := fun A n c W => cencl_no k (.slice A n c) A n c W hk rfl
  have H1 := Lib.hid g1
  clear g1
  go_enter Tryz.func25, Tryz.ntmps25
  have L := ((Lq.mk0 w).varI (w.heap.size) (by simp) false none 0 0 0 false none 0 0 0)
  replace L := L.var (w.heap.size + 1) (by simp) 87 #[.int .i64 (16), .func (.func 62) #[] #[], .int .i64 5, .int .i64 (-4), .func (.func 62) #[] #[], .int .i64 239] (plainP2 _ _ _ _ _ _ )
  have p0 := L.b0.cell 0
  have p1 := L.b0.cell 1
  have p2 := L.b0.cell 2
  have p3 := L.b0.cell 3
  have p4 := L.b0.cell 4
  have p5 := L.b0.cell 5
  (try go_wp2_with fail)
  clear p0 p1 p2 p3 p4 p5
  refine (H1.out _ _ _ _).mono ?_
  rintro e w1 ⟨v2, rfl, ii, be⟩
  obtain ⟨A8, c8, B8, d8, rfl, ia, ib⟩ := ii.form
  replace L := (((L.step be).n ib).n ia).swap
  clear be ii ia ib
  have c00 := L.b0.c60
  have f00 := L.b0.fr 0
  have c01 := L.b0.c61
  have f01 := L.b0.fr 1
  have c02 := L.b0.c62
  have f02 := L.b0.fr 2
  have c03 := L.b0.c63
  have f03 := L.b0.fr 3
  have c04 := L.b0.c64
  have f04 := L.b0.fr 4
  have c05 := L.b0.c65
  have f05 := L.b0.fr 5
  go_wp2_with fail
  have LP := L.putI (by omega) (by first | (simp; done) | (simp; omega)) (ng 0) A8 (zl 0) c8 0 (ng 0) B8 (zl 0) d8 0
  have k0 := LP.b0.c60
  have k1 := LP.b0.c61
  have k2 := LP.b0.c62
  have k3 := LP.b0.c63
  have k4 := LP.b0.c64
  have k5 := LP.b0.c65
  unfold put6 at k0 k1 k2 k3 k4 k5
  exact bodyPost_ret (v := .tuple #[.agg #[.bool (ng 0), .slice A8 (zl 0) c8, .int .i64 0, .bool (ng 0), .slice B8 (zl 0) d8, .int .i64 0], .int .i64 1]) (by simp [results, Tryz.results25, go_sem, k0, k1, k2, k3, k4, k5]) rfl ⟨_, rfl, isI_n (LP.getN (by simp)) (LP.getN (by simp)), LP.below⟩
set_option maxHeartbeats 4000000 in
theorem cpi_yes (k : Nat) (T : Int) (w : World) (hk : k ≤ 900) (hT : Tab w) (hS : piT (k + 32) = some T) :
    Calls Tryz.prog 25 #[.int .i64 (k : Int)] w (RetIE w (mkM (loC T) (-(k : Int))) (mkE (loC T) (-(k : Int))) (mkM (hiC T) (-(k : Int))) (mkE (hiC T) (-(k : Int))) 0) := by
  unfold piT at hS
  obtain ⟨T0, T1, h0, h1, rfl⟩ := add2_some hS
  obtain ⟨S0, hS0, r0⟩ := pt1_some h0
  obtain ⟨S1, hS1, r1⟩ := pt1_some h1
  subst r0 r1
  have hen0 : ∀ args w, (callFunc 62 args).run Tryz.prog w = .ok (.enter 62 args) w := enters_of Tryz.func62 (by kernel_rfl) rfl
  have G0 : GdP (tnP 5 1) := tnP_good (by simp)
  have a0 : AbP (16) 10 := by unfold AbP; decide
  have u0 := fun W (hW : Below w.heap.size w W) => csum_any 62 hen0 (tnP 5 1) 5 (16) S0 (k + 32) W G0 hS0 a0 (by omega) (hT.mono hW) (fun j W hj => carc_any 5 j W (by omega) (by omega) hj)
  have b0 := pt_abs G0 hS0 a0 (by omega)
  have hen1 : ∀ args w, (callFunc 62 args).run Tryz.prog w = .ok (.enter 62 args) w := enters_of Tryz.func62 (by kernel_rfl) rfl
  have G1 : GdP (tnP 239 1) := tnP_good (by simp)
  have a1 : AbP (-4) 10 := by unfold AbP; decide
  have u1 := fun W (hW : Below w.heap.size w W) => csum_any 62 hen1 (tnP 239 1) 239 (-4) S1 (k + 32) W G1 hS1 a1 (by omega) (hT.mono hW) (fun j W hj => carc_any 239 j W (by omega) (by omega) hj)
  have b1 := pt_abs G1 hS1 a1 (by omega)
  have g1 := fun v W (hl : RowP W v [((16 : Int), 62, (5 : Int)), ((-4 : Int), 62, (239 : Int))]) (hW : Below w.heap.size w W) => cencl_yes k [((16 : Int), 62, (5 : Int)), ((-4 : Int), 62, (239 : Int))] [S0 * (16), S1 * (-4)] (S0 * (16) + S1 * (-4)) v W hk hl rfl (by simp) (hT.mono hW) (fun c hc => by
    simp only [List.mem_cons, List.not_mem_nil, or_false] at hc
    rcases hc with rfl | rfl <;> assumption) (by unfold ttl; unfold ttl; unfold ttl; rw [Int.zero_add]) (fun j x c W2 hx hc hW2 => by
    have hW3 := hW.trans (hW2.mono hW.size)
    match j with
    | 0 =>
      obtain rfl : ((16 : Int), 62, (5 : Int)) = x := by simpa using hx
      obtain rfl : S0 * (16) = c := by simpa using hc
      exact u0 W2 hW3
    | 1 =>
      obtain rfl : ((-4 : Int), 62, (239 : Int)) = x := by simpa using hx
      obtain rfl : S1 * (-4) = c := by simpa using hc
      exact u1 W2 hW3
    | j + 2 => simp at hx)
  generalize S0 * (16) + S1 * (-4) = T at *
  clear hen0 G0 a0 u0 b0 hS0 hen1 G1 a1 u1 b1 hS1 hS h0 h1
  generalize mkM (loC T) (-(k : Int)) = Ma at *
  generalize mkE (loC T) (-(k : Int)) = Ea at *
  generalize mkM (hiC T) (-(k : Int)) = Na at *
  generalize mkE (hiC T) (-(k : Int)) = Fa at *
  have H1 := Lib.hid g1
  clear g1
  go_enter Tryz.func25, Tryz.ntmps25
  have L := ((Lq.mk0 w).varI (w.heap.size) (by simp) false none 0 0 0 false none 0 0 0)
  replace L := L.var (w.heap.size + 1) (by simp) 87 #[.int .i64 (16), .func (.func 62) #[] #[], .int .i64 5, .int .i64 (-4), .func (.func 62) #[] #[], .int .i64 239] (plainP2 _ _ _ _ _ _ )
  have p0 := L.b0.cell 0
  have p1 := L.b0.cell 1
  have p2 := L.b0.cell 2
  have p3 := L.b0.cell 3
  have p4 := L.b0.cell 4
  have p5 := L.b0.cell 5
  (try go_wp2_with fail)
  clear p0 p1 p2 p3 p4 p5
  refine (H1.out _ _ (rowP_2 L.b0) L.below).mono ?_
  rintro e w1 ⟨v2, rfl, ii, be⟩
  obtain ⟨A8, c8, B8, d8, rfl, ia, ib⟩ := ii.form
  replace L := (((L.step be).n ib).n ia).swap
  clear be ii ia ib
  have c00 := L.b0.c60
  have f00 := L.b0.fr 0
  have c01 := L.b0.c61
  have f01 := L.b0.fr 1
  have c02 := L.b0.c62
  have f02 := L.b0.fr 2
  have c03 := L.b0.c63
  have f03 := L.b0.fr 3
  have c04 := L.b0.c64
  have f04 := L.b0.fr 4
  have c05 := L.b0.c65
  have f05 := L.b0.fr 5
  go_wp2_with fail
  have LP := L.putI (by omega) (by first | (simp; done) | (simp; omega)) (ng Ma) A8 (zl Ma) c8 Ea (ng Na) B8 (zl Na) d8 Fa
  have k0 := LP.b0.c60
  have k1 := LP.b0.c61
  have k2 := LP.b0.c62
  have k3 := LP.b0.c63
  have k4 := LP.b0.c64
  have k5 := LP.b0.c65
  unfold put6 at k0 k1 k2 k3 k4 k5
  exact bodyPost_ret (v := .tuple #[.agg #[.bool (ng Ma), .slice A8 (zl Ma) c8, .int .i64 Ea, .bool (ng Na), .slice B8 (zl Na) d8, .int .i64 Fa], .int .i64 0]) (by simp [results, Tryz.results25, go_sem, k0, k1, k2, k3, k4, k5]) rfl ⟨_, rfl, isI_n (LP.getN (by simp)) (LP.getN (by simp)), LP.below⟩
/-- A value stands for the span from a to b. -/
def IsS (w : World) (v : Value) (a b : Int) : Prop := ∃ s t, v = .agg #[.bool (ng a), s, .bool (ng b), t] ∧ IsN w s a.natAbs ∧ IsN w t b.natAbs
theorem IsS.mono {w w' : World} {v : Value} {a b : Int} (h : IsS w v a b) (hb : Below w.heap.size w w') : IsS w' v a b := by
  obtain ⟨s, t, r, hs, ht⟩ := h
  exact ⟨s, t, r, hs.mono hb, ht.mono hb⟩
theorem IsS.form {w : World} {v : Value} {a b : Int} (h : IsS w v a b) : ∃ A c B d, v = .agg #[.bool (ng a), .slice A (zl a) c, .bool (ng b), .slice B (zl b) d] ∧ IsN w (.slice A (zl a) c) a.natAbs ∧ IsN w (.slice B (zl b) d) b.natAbs := by
  obtain ⟨s, t, r, hs, ht⟩ := h
  obtain ⟨A, c, e1⟩ := hs.form
  obtain ⟨B, d, e2⟩ := ht.form
  subst e1 e2
  exact ⟨A, c, B, d, r, hs, ht⟩
section
variable {w0 w : World} {ns : List (Value × Nat)} {zs : List (Value × Int)} {qs : List (Value × Int × Nat)} {bs : List (Nat × TypeId × Array Value)}
end
theorem Var.c40 {w : World} {g : Nat} {ty : TypeId} {x0 x1 x2 x3 : Value} (h : Var w g ty #[x0, x1, x2, x3]) : w.cell? ⟨g, 0, none⟩ = some x0 := h.cell 0
theorem Var.c41 {w : World} {g : Nat} {ty : TypeId} {x0 x1 x2 x3 : Value} (h : Var w g ty #[x0, x1, x2, x3]) : w.cell? ⟨g, 1, none⟩ = some x1 := h.cell 1
theorem Var.c42 {w : World} {g : Nat} {ty : TypeId} {x0 x1 x2 x3 : Value} (h : Var w g ty #[x0, x1, x2, x3]) : w.cell? ⟨g, 2, none⟩ = some x2 := h.cell 2
theorem isZ_s {w : World} {s : Value} {z : Int} (h : IsN w s z.natAbs) : IsZ w (.agg #[.bool (ng z), s]) z := ⟨s, rfl, h⟩

theorem mk_fits5 {m e : Int} (h : zl m ≤ 1900) (h1 : -60000 ≤ e) (h2 : e ≤ 4000) : mkR m e = 0 := by
  unfold mkR
  rw [if_neg (by omega)]
  by_cases h0 : m = 0
  · rw [if_pos h0]
  · rw [if_neg h0]
    have ht := tz_le8 m.natAbs (by omega)
    have e1 : zl m = len m.natAbs := rfl
    have hb : blen (oddM m).natAbs ≤ 65536 := by
      have := blen_le_len (oddM m).natAbs
      have h3 := zl_odd m
      have e2 : zl (oddM m) = len (oddM m).natAbs := rfl
      omega
    have ho : bitB (oddM m).natAbs 0 = true := by
      obtain ⟨k, hk⟩ := tz_form (x := m.natAbs) (by omega)
      have hd : m.natAbs / 2 ^ tz m.natAbs = 2 * k + 1 := by
        have := Nat.mul_div_cancel_left (2 * k + 1) (Nat.pow_pos (n := tz m.natAbs) (show 0 < 2 by omega))
        rwa [← hk] at this
      unfold bitB
      rw [oddM_abs, hd, Nat.pow_zero, Nat.div_one]
      exact decide_eq_true (by omega)
    have hf : fits8 (oddM m) (oddE m e) = true := by
      unfold fits8 oddE
      rw [decide_eq_true hb, decide_eq_true (by omega), decide_eq_true (by omega), ho]
      rfl
    rw [hf]
    rfl
/-- The width of an interval, as Width returns it; which intervals are tight. -/
def wdM (m e n f : Int) : Int := mkM (addS n f (-m) e) (min f e)
def wdE (m e n f : Int) : Int := mkE (addS n f (-m) e) (min f e)
def wdR (m e n f : Int) : Int := mkR (addS n f (-m) e) (min f e)
def tgtB (m e n f k : Int) : Bool := decide (0 ≤ k) && (decide (k ≤ 4224) && (decide (dcm m e n f ≤ 0) && (onB m e k && (onB n f k && (decide (wdR m e n f = 0) && decide (dcm (wdM m e n f) (wdE m e n f) (gM 1 (k - 1)) (gE 1 (k - 1)) ≤ 0))))))

set_option maxHeartbeats 8000000 in
theorem s13tight_any (m e n f k : Int) (vx : Value) (w : World) (hx : IsI w vx m e n f) (lm : zl m ≤ 1000) (ln : zl n ≤ 1000) (he : -20000 ≤ e ∧ e ≤ 20000) (hf : -20000 ≤ f ∧ f ≤ 20000) (hv : Dv m e) (hv2 : Dv n f) (hk1 : -9223372036854775808 ≤ k) (hk2 : k ≤ 9223372036854775807) :
    Calls Tryz.prog 12 #[vx, .int .i64 k] w (RetB w (tgtB m e n f k)) := by
  obtain ⟨A, c, B, d, rfl, hn1, hn2⟩ := hx.form
  have L0 := ((Lq.mk0 w).n hn2).n hn1
  have h0 := fun v W h => r10valid_any m e n f v W h lm ln (by omega) (by omega) hv hv2
  have h1 := fun v W h => ron9_any m e k v W h (by omega) (by omega)
  have h2 := fun v W h => ron9_any n f k v W h (by omega) (by omega)
  have h3 := fun v W h => r10width_any m e n f v W h lm ln he hf
  have zA := zl_addS n f (-m) e 20000 (by omega) (by omega)
  have zN := zl_neg m
  have zM := zl_mk (addS n f (-m) e) (min f e)
  have hr : wdR m e n f = 0 → zl (wdM m e n f) ≤ 10000 ∧ -100000 ≤ wdE m e n f ∧ wdE m e n f ≤ 100000 := fun h => by
    have := dv_bound (mk_ok h)
    unfold wdM wdE
    omega
  rw [show mkM (addS n f (-m) e) (min f e) = wdM m e n f from rfl, show mkE (addS n f (-m) e) (min f e) = wdE m e n f from rfl, show mkR (addS n f (-m) e) (min f e) = wdR m e n f from rfl] at h3
  have hu : 0 ≤ k → k ≤ 4224 → zl (gM 1 (k - 1)) ≤ 10000 ∧ -100000 ≤ gE 1 (k - 1) ∧ gE 1 (k - 1) ≤ 100000 := fun a b => by
    have hp : permB (k - 1) = true := by
      unfold permB
      rw [decide_eq_true (show -2048 ≤ k - 1 by omega), decide_eq_true (show k - 1 ≤ 8192 by omega)]
      rfl
    obtain ⟨e1, e2, _⟩ := g_yes hp 1
    rw [e1, e2]
    have z1 : zl 1 ≤ 1 := len_le1 (by omega)
    have z2 := zl_mk 1 (-(k - 1))
    have hf : mkR 1 (-(k - 1)) = 0 := mk_fits5 (by omega) (by omega) (by omega)
    have := dv_bound (mk_ok hf)
    omega
  have h5 := fun (a : 0 ≤ k) (b : k ≤ 4224) (r : wdR m e n f = 0) v u W g h => rcmp8_any (wdM m e n f) (wdE m e n f) (gM 1 (k - 1)) (gE 1 (k - 1)) v u W g h (Nat.le_trans (hr r).1 (by omega)) (Nat.le_trans (hu a b).1 (by omega)) (hr r).2 (hu a b).2
  have h4 := fun (a : 0 ≤ k) (b : k ≤ 4224) W => runit9_any (k - 1) W (by omega) (by omega)
  have HT := Lib.hid (rfl : tgtB m e n f k = tgtB m e n f k)
  generalize hT : tgtB m e n f k = T at HT ⊢
  unfold tgtB at hT
  rw [show dcm (wdM m e n f) (wdE m e n f) (gM 1 (k - 1)) (gE 1 (k - 1)) = cmpI (wdM m e n f * 2 ^ (wdE m e n f - min (wdE m e n f) (gE 1 (k - 1))).toNat) (gM 1 (k - 1) * 2 ^ (gE 1 (k - 1) - min (wdE m e n f) (gE 1 (k - 1))).toNat) from rfl] at hT
  generalize cmpI (wdM m e n f * 2 ^ (wdE m e n f - min (wdE m e n f) (gE 1 (k - 1))).toNat) (gM 1 (k - 1) * 2 ^ (gE 1 (k - 1) - min (wdE m e n f) (gE 1 (k - 1))).toNat) = x at *
  generalize wdM m e n f = M at *
  generalize wdE m e n f = E at *
  generalize wdR m e n f = R at *
  generalize gM 1 (k - 1) = M2 at *
  generalize gE 1 (k - 1) = E2 at *
  generalize gR 1 (k - 1) = R2 at *
  generalize decide (dcm m e n f ≤ 0) = bv at *
  generalize onB m e k = bl at *
  generalize onB n f k = bh at *
  have H0 := Lib.hid h0
  have H1 := Lib.hid h1
  have H2 := Lib.hid h2
  have H3 := Lib.hid h3
  have H4 := Lib.hid h4
  have H5 := Lib.hid h5
  clear h0 h1 h2 h3 h4 h5 zA zN zM hr hu HT lm ln he hf hv hv2 hn1 hn2
  obtain ⟨z, hz⟩ : ∃ z, decide (x ≤ 0) = z := ⟨_, rfl⟩
  rw [hz] at hT
  have HT := Lib.hid hT
  clear hT
  cases b0 : decide (0 ≤ k)
  · rw [b0] at HT
    have hb0 : k < 0 := by have := of_decide_eq_false b0; omega
    have q0 : decide (k < 0) = true := decide_eq_true hb0
    have hT := HT.out
    simp only [Bool.true_and, Bool.false_and] at hT
    subst hT
    
    go_enter Tryz.func12, Tryz.ntmps12
    go_wp2_with fail
    have L := (L0.varI (w.heap.size) (by simp) (ng m) A (zl m) c e (ng n) B (zl n) d f)
    have c00 := L.b0.c60
    have c01 := L.b0.c61
    have c02 := L.b0.c62
    have c03 := L.b0.c63
    have c04 := L.b0.c64
    have c05 := L.b0.c65
    (try go_wp2_with fail)
    (try go_ret)
    exact ⟨rfl, L.below⟩
  · rw [b0] at HT
    have hb0 : 0 ≤ k := of_decide_eq_true b0
    have q0 : decide (k < 0) = false := decide_eq_false (by omega)
    have w1 : IntKind.i64.wrap (k - 1) = k - 1 := by rw [IntKind.wrap_i64]; omega
    cases b1 : decide (k ≤ 4224)
    · rw [b1] at HT
      have hb1 : 4224 < k := by have := of_decide_eq_false b1; omega
      have q1 : decide (4224 < k) = true := decide_eq_true hb1
      have hT := HT.out
      simp only [Bool.true_and, Bool.false_and] at hT
      subst hT
      
      go_enter Tryz.func12, Tryz.ntmps12
      go_wp2_with fail
      have L := (L0.varI (w.heap.size) (by simp) (ng m) A (zl m) c e (ng n) B (zl n) d f)
      have c00 := L.b0.c60
      have c01 := L.b0.c61
      have c02 := L.b0.c62
      have c03 := L.b0.c63
      have c04 := L.b0.c64
      have c05 := L.b0.c65
      (try go_wp2_with fail)
      (try go_ret)
      exact ⟨rfl, L.below⟩
    · rw [b1] at HT
      have hb1 : k ≤ 4224 := of_decide_eq_true b1
      have q1 : decide (4224 < k) = false := decide_eq_false (by omega)
      cases bv
      · skip
        have hT := HT.out
        simp only [Bool.true_and, Bool.false_and] at hT
        subst hT
        
        go_enter Tryz.func12, Tryz.ntmps12
        go_wp2_with fail
        have L := (L0.varI (w.heap.size) (by simp) (ng m) A (zl m) c e (ng n) B (zl n) d f)
        have c00 := L.b0.c60
        have c01 := L.b0.c61
        have c02 := L.b0.c62
        have c03 := L.b0.c63
        have c04 := L.b0.c64
        have c05 := L.b0.c65
        (try go_wp2_with fail)
        refine (H0.out _ _ (isI_n (m := m) (e := e) (n := n) (f := f) (L.getN (by simp)) (L.getN (by simp)))).mono ?_
        rintro e w1 ⟨rfl, be⟩
        clear c00 c01 c02 c03 c04 c05
        replace L := L.step be
        clear be
        have c00 := L.b0.c60
        have c01 := L.b0.c61
        have c02 := L.b0.c62
        have c03 := L.b0.c63
        have c04 := L.b0.c64
        have c05 := L.b0.c65
        (try go_wp2_with fail)
        (try go_ret)
        exact ⟨rfl, L.below⟩
      · cases bl
        · skip
          have hT := HT.out
          simp only [Bool.true_and, Bool.false_and] at hT
          subst hT
          
          go_enter Tryz.func12, Tryz.ntmps12
          go_wp2_with fail
          have L := (L0.varI (w.heap.size) (by simp) (ng m) A (zl m) c e (ng n) B (zl n) d f)
          have c00 := L.b0.c60
          have c01 := L.b0.c61
          have c02 := L.b0.c62
          have c03 := L.b0.c63
          have c04 := L.b0.c64
          have c05 := L.b0.c65
          (try go_wp2_with fail)
          refine (H0.out _ _ (isI_n (m := m) (e := e) (n := n) (f := f) (L.getN (by simp)) (L.getN (by simp)))).mono ?_
          rintro e w1 ⟨rfl, be⟩
          clear c00 c01 c02 c03 c04 c05
          replace L := L.step be
          clear be
          have c00 := L.b0.c60
          have c01 := L.b0.c61
          have c02 := L.b0.c62
          have c03 := L.b0.c63
          have c04 := L.b0.c64
          have c05 := L.b0.c65
          (try go_wp2_with fail)
          refine (H1.out _ _ (isD_n (m := m) (e := e) (s := .slice A (zl m) c) (L.getN (by simp)))).mono ?_
          rintro e w2 ⟨rfl, be⟩
          clear c00 c01 c02 c03 c04 c05
          replace L := L.step be
          clear be
          have c00 := L.b0.c60
          have c01 := L.b0.c61
          have c02 := L.b0.c62
          have c03 := L.b0.c63
          have c04 := L.b0.c64
          have c05 := L.b0.c65
          (try go_wp2_with fail)
          (try go_ret)
          exact ⟨rfl, L.below⟩
        · cases bh
          · skip
            have hT := HT.out
            simp only [Bool.true_and, Bool.false_and] at hT
            subst hT
            
            go_enter Tryz.func12, Tryz.ntmps12
            go_wp2_with fail
            have L := (L0.varI (w.heap.size) (by simp) (ng m) A (zl m) c e (ng n) B (zl n) d f)
            have c00 := L.b0.c60
            have c01 := L.b0.c61
            have c02 := L.b0.c62
            have c03 := L.b0.c63
            have c04 := L.b0.c64
            have c05 := L.b0.c65
            (try go_wp2_with fail)
            refine (H0.out _ _ (isI_n (m := m) (e := e) (n := n) (f := f) (L.getN (by simp)) (L.getN (by simp)))).mono ?_
            rintro e w1 ⟨rfl, be⟩
            clear c00 c01 c02 c03 c04 c05
            replace L := L.step be
            clear be
            have c00 := L.b0.c60
            have c01 := L.b0.c61
            have c02 := L.b0.c62
            have c03 := L.b0.c63
            have c04 := L.b0.c64
            have c05 := L.b0.c65
            (try go_wp2_with fail)
            refine (H1.out _ _ (isD_n (m := m) (e := e) (s := .slice A (zl m) c) (L.getN (by simp)))).mono ?_
            rintro e w2 ⟨rfl, be⟩
            clear c00 c01 c02 c03 c04 c05
            replace L := L.step be
            clear be
            have c00 := L.b0.c60
            have c01 := L.b0.c61
            have c02 := L.b0.c62
            have c03 := L.b0.c63
            have c04 := L.b0.c64
            have c05 := L.b0.c65
            (try go_wp2_with fail)
            refine (H2.out _ _ (isD_n (m := n) (e := f) (s := .slice B (zl n) d) (L.getN (by simp)))).mono ?_
            rintro e w3 ⟨rfl, be⟩
            clear c00 c01 c02 c03 c04 c05
            replace L := L.step be
            clear be
            have c00 := L.b0.c60
            have c01 := L.b0.c61
            have c02 := L.b0.c62
            have c03 := L.b0.c63
            have c04 := L.b0.c64
            have c05 := L.b0.c65
            (try go_wp2_with fail)
            (try go_ret)
            exact ⟨rfl, L.below⟩
          · cases br : decide (R = 0)
            · rw [br] at HT
              have hbr : ¬ R = 0 := of_decide_eq_false br
              have q3 : (R == 0) = false := by rw [beq_eq_false_iff_ne]; exact hbr
              have hT := HT.out
              simp only [Bool.true_and, Bool.false_and] at hT
              subst hT
              
              go_enter Tryz.func12, Tryz.ntmps12
              go_wp2_with fail
              have L := (L0.varI (w.heap.size) (by simp) (ng m) A (zl m) c e (ng n) B (zl n) d f)
              have c00 := L.b0.c60
              have c01 := L.b0.c61
              have c02 := L.b0.c62
              have c03 := L.b0.c63
              have c04 := L.b0.c64
              have c05 := L.b0.c65
              (try go_wp2_with fail)
              refine (H0.out _ _ (isI_n (m := m) (e := e) (n := n) (f := f) (L.getN (by simp)) (L.getN (by simp)))).mono ?_
              rintro e w1 ⟨rfl, be⟩
              clear c00 c01 c02 c03 c04 c05
              replace L := L.step be
              clear be
              have c00 := L.b0.c60
              have c01 := L.b0.c61
              have c02 := L.b0.c62
              have c03 := L.b0.c63
              have c04 := L.b0.c64
              have c05 := L.b0.c65
              (try go_wp2_with fail)
              refine (H1.out _ _ (isD_n (m := m) (e := e) (s := .slice A (zl m) c) (L.getN (by simp)))).mono ?_
              rintro e w2 ⟨rfl, be⟩
              clear c00 c01 c02 c03 c04 c05
              replace L := L.step be
              clear be
              have c00 := L.b0.c60
              have c01 := L.b0.c61
              have c02 := L.b0.c62
              have c03 := L.b0.c63
              have c04 := L.b0.c64
              have c05 := L.b0.c65
              (try go_wp2_with fail)
              refine (H2.out _ _ (isD_n (m := n) (e := f) (s := .slice B (zl n) d) (L.getN (by simp)))).mono ?_
              rintro e w3 ⟨rfl, be⟩
              clear c00 c01 c02 c03 c04 c05
              replace L := L.step be
              clear be
              have c00 := L.b0.c60
              have c01 := L.b0.c61
              have c02 := L.b0.c62
              have c03 := L.b0.c63
              have c04 := L.b0.c64
              have c05 := L.b0.c65
              (try go_wp2_with fail)
              refine (H3.out _ _ (isI_n (m := m) (e := e) (n := n) (f := f) (L.getN (by simp)) (L.getN (by simp)))).mono ?_
              rintro e w4 ⟨vv, rfl, id, be⟩
              clear c00 c01 c02 c03 c04 c05
              obtain ⟨A2, c2, rfl, _, in9⟩ := id.form
              replace L := (L.step be).n in9
              clear be id in9
              have hl0 := L.b0.lt
              replace L := L.varD w4.heap.size rfl (ng M) A2 (zl M) c2 E
              have c00 := L.b0.c30
              have c01 := L.b0.c31
              have c02 := L.b0.c32
              go_wp2_with fail
              clear c00 c01 c02
              obtain ⟨g1, hg1⟩ : ∃ g9, w4.heap.size = g9 := ⟨_, rfl⟩
              rw [hg1] at L hl0 ⊢
              clear hg1
              refine (H4.out hb0 hb1 _).mono ?_
              rintro e w5 ⟨vv, rfl, id, be⟩
              obtain ⟨A3, c3, rfl, _, in9⟩ := id.form
              replace L := (L.step be).n in9
              clear be id in9
              have hl1 := L.b0.lt
              replace L := L.varD w5.heap.size rfl (ng M2) A3 (zl M2) c3 E2
              have c00 := L.b0.c30
              have c01 := L.b0.c31
              have c02 := L.b0.c32
              have c10 := L.tl.b0.c30
              have c11 := L.tl.b0.c31
              have c12 := L.tl.b0.c32
              go_wp2_with fail
              (try go_ret)
              exact ⟨rfl, L.below⟩
            · rw [br] at HT
              have hbr : R = 0 := of_decide_eq_true br
              have H6 := Lib.hid (fun v u W g h => H5.out hb0 hb1 hbr v u W g h)
              subst hbr
              have hT := HT.out
              simp only [Bool.true_and, Bool.false_and] at hT
              subst hT
              subst hz
              
              go_enter Tryz.func12, Tryz.ntmps12
              go_wp2_with fail
              have L := (L0.varI (w.heap.size) (by simp) (ng m) A (zl m) c e (ng n) B (zl n) d f)
              have c00 := L.b0.c60
              have c01 := L.b0.c61
              have c02 := L.b0.c62
              have c03 := L.b0.c63
              have c04 := L.b0.c64
              have c05 := L.b0.c65
              (try go_wp2_with fail)
              refine (H0.out _ _ (isI_n (m := m) (e := e) (n := n) (f := f) (L.getN (by simp)) (L.getN (by simp)))).mono ?_
              rintro e w1 ⟨rfl, be⟩
              clear c00 c01 c02 c03 c04 c05
              replace L := L.step be
              clear be
              have c00 := L.b0.c60
              have c01 := L.b0.c61
              have c02 := L.b0.c62
              have c03 := L.b0.c63
              have c04 := L.b0.c64
              have c05 := L.b0.c65
              (try go_wp2_with fail)
              refine (H1.out _ _ (isD_n (m := m) (e := e) (s := .slice A (zl m) c) (L.getN (by simp)))).mono ?_
              rintro e w2 ⟨rfl, be⟩
              clear c00 c01 c02 c03 c04 c05
              replace L := L.step be
              clear be
              have c00 := L.b0.c60
              have c01 := L.b0.c61
              have c02 := L.b0.c62
              have c03 := L.b0.c63
              have c04 := L.b0.c64
              have c05 := L.b0.c65
              (try go_wp2_with fail)
              refine (H2.out _ _ (isD_n (m := n) (e := f) (s := .slice B (zl n) d) (L.getN (by simp)))).mono ?_
              rintro e w3 ⟨rfl, be⟩
              clear c00 c01 c02 c03 c04 c05
              replace L := L.step be
              clear be
              have c00 := L.b0.c60
              have c01 := L.b0.c61
              have c02 := L.b0.c62
              have c03 := L.b0.c63
              have c04 := L.b0.c64
              have c05 := L.b0.c65
              (try go_wp2_with fail)
              refine (H3.out _ _ (isI_n (m := m) (e := e) (n := n) (f := f) (L.getN (by simp)) (L.getN (by simp)))).mono ?_
              rintro e w4 ⟨vv, rfl, id, be⟩
              clear c00 c01 c02 c03 c04 c05
              obtain ⟨A2, c2, rfl, _, in9⟩ := id.form
              replace L := (L.step be).n in9
              clear be id in9
              have hl0 := L.b0.lt
              replace L := L.varD w4.heap.size rfl (ng M) A2 (zl M) c2 E
              have c00 := L.b0.c30
              have c01 := L.b0.c31
              have c02 := L.b0.c32
              go_wp2_with fail
              clear c00 c01 c02
              obtain ⟨g1, hg1⟩ : ∃ g9, w4.heap.size = g9 := ⟨_, rfl⟩
              rw [hg1] at L hl0 ⊢
              clear hg1
              refine (H4.out hb0 hb1 _).mono ?_
              rintro e w5 ⟨vv, rfl, id, be⟩
              obtain ⟨A3, c3, rfl, _, in9⟩ := id.form
              replace L := (L.step be).n in9
              clear be id in9
              have hl1 := L.b0.lt
              replace L := L.varD w5.heap.size rfl (ng M2) A3 (zl M2) c3 E2
              have c00 := L.b0.c30
              have c01 := L.b0.c31
              have c02 := L.b0.c32
              have c10 := L.tl.b0.c30
              have c11 := L.tl.b0.c31
              have c12 := L.tl.b0.c32
              go_wp2_with fail
              clear c00 c01 c02 c10 c11 c12
              obtain ⟨g2, hg2⟩ : ∃ g9, w5.heap.size = g9 := ⟨_, rfl⟩
              rw [hg2] at L hl1 ⊢
              clear hg2
              refine (H6.out _ _ _ (isD_n (m := M) (e := E) (s := .slice A2 (zl M) c2) (L.getN (by simp))) (isD_n (m := M2) (e := E2) (s := .slice A3 (zl M2) c3) (L.getN (by simp)))).mono ?_
              rintro e w6 ⟨rfl, be⟩
              replace L := L.step be
              clear be
              (try go_wp2_with fail)
              (try go_ret)
              exact ⟨rfl, L.below⟩

/-- A value stands for three intervals. -/
def IsT (w : World) (v : Value) (m1 e1 n1 f1 m2 e2 n2 f2 m3 e3 n3 f3 : Int) : Prop := ∃ s1 t1 s2 t2 s3 t3, v = .agg #[.bool (ng m1), s1, .int .i64 e1, .bool (ng n1), t1, .int .i64 f1, .bool (ng m2), s2, .int .i64 e2, .bool (ng n2), t2, .int .i64 f2, .bool (ng m3), s3, .int .i64 e3, .bool (ng n3), t3, .int .i64 f3] ∧ IsN w s1 m1.natAbs ∧ IsN w t1 n1.natAbs ∧ IsN w s2 m2.natAbs ∧ IsN w t2 n2.natAbs ∧ IsN w s3 m3.natAbs ∧ IsN w t3 n3.natAbs
theorem IsT.form {w : World} {v : Value} {m1 e1 n1 f1 m2 e2 n2 f2 m3 e3 n3 f3 : Int} (h : IsT w v m1 e1 n1 f1 m2 e2 n2 f2 m3 e3 n3 f3) : ∃ A1 c1 B1 d1 A2 c2 B2 d2 A3 c3 B3 d3, v = .agg #[.bool (ng m1), .slice A1 (zl m1) c1, .int .i64 e1, .bool (ng n1), .slice B1 (zl n1) d1, .int .i64 f1, .bool (ng m2), .slice A2 (zl m2) c2, .int .i64 e2, .bool (ng n2), .slice B2 (zl n2) d2, .int .i64 f2, .bool (ng m3), .slice A3 (zl m3) c3, .int .i64 e3, .bool (ng n3), .slice B3 (zl n3) d3, .int .i64 f3] ∧ IsN w (.slice A1 (zl m1) c1) m1.natAbs ∧ IsN w (.slice B1 (zl n1) d1) n1.natAbs ∧ IsN w (.slice A2 (zl m2) c2) m2.natAbs ∧ IsN w (.slice B2 (zl n2) d2) n2.natAbs ∧ IsN w (.slice A3 (zl m3) c3) m3.natAbs ∧ IsN w (.slice B3 (zl n3) d3) n3.natAbs := by
  obtain ⟨s1, t1, s2, t2, s3, t3, r, h1, h2, h3, h4, h5, h6⟩ := h
  obtain ⟨A1, c1, x1⟩ := h1.form
  obtain ⟨B1, d1, x2⟩ := h2.form
  obtain ⟨A2, c2, x3⟩ := h3.form
  obtain ⟨B2, d2, x4⟩ := h4.form
  obtain ⟨A3, c3, x5⟩ := h5.form
  obtain ⟨B3, d3, x6⟩ := h6.form
  subst x1 x2 x3 x4 x5 x6
  exact ⟨A1, c1, B1, d1, A2, c2, B2, d2, A3, c3, B3, d3, r, h1, h2, h3, h4, h5, h6⟩
section
variable {w0 w : World} {ns : List (Value × Nat)} {zs : List (Value × Int)} {qs : List (Value × Int × Nat)} {bs : List (Nat × TypeId × Array Value)}
end
/-- A slice of integers: what its elements stand for. -/
def RowZ (w : World) (v : Value) (l : List Int) : Prop := ∃ g c, v = .slice (some ⟨g, 0, none⟩) l.length c ∧ g < w.heap.size ∧ ∀ (j : Nat) (p : Int), l[j]? = some p → ∃ A c, w.cell? ⟨g, 2 * j, none⟩ = some (.bool (ng p)) ∧ w.cell? ⟨g, 2 * j + 1, none⟩ = some (.slice A (zl p) c) ∧ IsZ w (.agg #[.bool (ng p), .slice A (zl p) c]) p
theorem RowZ.mono {w w' : World} {v : Value} {l : List Int} (h : RowZ w v l) (hb : Below w.heap.size w w') : RowZ w' v l := by
  obtain ⟨g, c, r, hg, h⟩ := h
  refine ⟨g, c, r, Nat.lt_of_lt_of_le hg hb.size, fun j p hp => ?_⟩
  obtain ⟨A, c, h1, h2, h3⟩ := h j p hp
  exact ⟨A, c, (hb.cell (p := ⟨g, 2 * j, none⟩) hg).trans h1, (hb.cell (p := ⟨g, 2 * j + 1, none⟩) hg).trans h2, h3.mono hb⟩
def LoopZ (l : List Int) (t : Nat) (a1 a2 : Int) : Prop := a1 ∈ l ∧ a2 ∈ l ∧ ∀ (j : Nat) (p : Int), j < t → l[j]? = some p → a1 ≤ p ∧ p ≤ a2
theorem LoopZ.step {l : List Int} {t : Nat} {a1 a2 a b1 b2 : Int} (h : LoopZ l t a1 a2) (hp : l[t]? = some a) (m1 : b1 ∈ l) (m2 : b2 ∈ l) (x1 : b1 ≤ a1) (x2 : b1 ≤ a) (y1 : a2 ≤ b2) (y2 : a ≤ b2) : LoopZ l (t + 1) b1 b2 := by
  refine ⟨m1, m2, fun j p hj hjp => ?_⟩
  rcases Nat.lt_or_ge j t with h1 | h1
  · have := h.2.2 j p h1 hjp
    exact ⟨Int.le_trans x1 this.1, Int.le_trans this.2 y1⟩
  · obtain rfl : j = t := by omega
    rw [hp] at hjp
    obtain rfl := Option.some.inj hjp
    exact ⟨x2, y2⟩
theorem LoopZ.all {l : List Int} {a1 a2 : Int} {n : Nat} (hn : l.length = n) (h : LoopZ l n a1 a2) : (∀ q ∈ l, a1 ≤ q) ∧ ∀ q ∈ l, q ≤ a2 := by
  constructor <;> intro q hq <;> obtain ⟨j, hj, e⟩ := List.getElem_of_mem hq
  · exact (h.2.2 j q (by omega) (by rw [← e]; exact List.getElem?_eq_getElem hj)).1
  · exact (h.2.2 j q (by omega) (by rw [← e]; exact List.getElem?_eq_getElem hj)).2

end Go.Proofs.YtfnklkdbieikeaaGreatDoor
